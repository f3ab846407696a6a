/- Part 26. -/
import Derived.Test.YtcnelakggnfnhaaGreatDoorK24
set_option maxRecDepth 100000
set_option maxHeartbeats 8000000
namespace Go.Proofs.YtcnelakggnfnhaaGreatDoor
open Go.Proofs.Tryz
open Go.RowKit
section
variable {l:Xn} {g d:Nat} {S:Xs} {T:Xj} {v:Xv} {w f:Xw}
theorem PF {B:Nat}{a:Xw}(h:Below B a w)(n:Nat):Below B a (w.drewN n):=⟨h.os,h.tape,h.output,h.size,h.block⟩
theorem Fr.drewN (h:Fr T w f)(n:Nat):Fr T w (f.drewN n):=⟨h.os,h.tape,h.output,h.size,h.block⟩
theorem PJ {W:Xw}{b i j:Nat}{u:Xv}(c:¬j=i)(h:W.cell? (xD b i)=some v):(W.setCell (xD b j) u).cell? (xD b i)=some v :=
 (World.cell?_setCell_other W (a:=(xD b j)) (b:=(xD b i)) (v:=u) (λe=>c (by cases e;rfl))).trans h
structure Ir where
 at':Nat
 er:Option Nat
def Ir.fail (s:Ir):Ir:=if s.er=none then { s with er:=some s.at' } else s
def MT (b:Bool)(s:Ir):Ir:=if b then s else s.fail
def zG (l:Xn)(s:Ir):Nat×Ir :=
 if s.er=none then (if l.length<=s.at' then (0,{ s with er:=some s.at' }) else (l.getD s.at' 0,{ s with at':=s.at'+1 })) else (0,s)
def Nb (S:Xs):Option Nat->Value
 | none=>.nilIface
 | some p=>.iface 53 (.agg #[aW S 10,xI (p:Nat)])
structure RL (S:Xs) (w:Xw) (d:Nat) (v:Xv) (g:Nat) (l:Xn) (s:Ir):Prop where
 aC:w.heap[d]?=some (.cells #[v,xI (s.at':Nat),Nb S s.er] 190 (0,0))
 fq:By w v g l
 le:s.at'<=l.length
 len:l.length<=1048576
 ne:¬g=d
 Pg:21<=d
 gl:Gl S w
 Oj:Nq w
theorem RL.fr {s:Ir}(h:RL S w d v g l s)(hF:Fr T w f)(n:¬T d)(o:¬T g)(b:∀k,T k->21<=k)(p:l≠[]->g<w.heap.size):RL S f d v g l s:=by
 refine⟨(hF.block d (ze h.aC) n).trans h.aC,?_,h.le,h.len,h.ne,h.Pg,h.gl.of hF b,h.Oj.am (hF.am h.gl.size b) (an _)⟩;by_cases e:l=[]
 . obtain⟨a,c,i,j,m,q⟩:=h.fq.ex;exact⟨⟨a,c,i,j,m,λh=>absurd e h⟩,h.fq.lt⟩
 exact h.fq.of (hF.block g (p e) o)
theorem By.Bd (h:By w v g l)(b:l≠[]):g<w.heap.size:=by
 obtain⟨a,c,j,k,m,e⟩:=h.ex;obtain⟨o,n,i⟩:=e b;cases l with
 | nil=>exact absurd rfl b
 | cons x l =>
   have:=i 0 x rfl;unfold World.cell? at this;rcases Nat.lt_or_ge g w.heap.size with h'|h'
   . exact h'
   simp[Array.getElem?_eq_none h'] at this
theorem RL.below {s:Ir}(h:RL S w d v g l s)(a:xB w f):RL S f d v g l s :=
 h.fr (T:=λ_=>False) (Fr.Mo a) id id (λ_ h=>h.elim) (λb=>h.fq.Bd b)
theorem RL.set {s b:Ir}(h:RL S w d v g l s)(hF:Fr (·=d) w f)(p:xH f d #[v,xI (b.at':Nat),Nb S b.er] 190)(i:b.at'<=l.length):RL S f d v g l b:=by
 refine⟨p,?_,i,h.len,h.ne,h.Pg,h.gl.of hF (λk e=>e▸h.Pg),h.Oj.am (hF.am h.gl.size (λk e=>e▸h.Pg)) (an _)⟩;by_cases j:l=[]
 . obtain⟨a,c,m,n,o,q⟩:=h.fq.ex;exact⟨⟨a,c,m,n,o,λh=>absurd j h⟩,h.fq.lt⟩
 exact h.fq.of (hF.block g (h.fq.Bd j) h.ne)
def Ql (S:Xs)(d:Nat)(v:Xv)(g:Nat)(l:Xn)(w:Xw)(r:Xv)(s:Ir)(e:Ending)(f:Xw):Prop :=
 e=.returned r/\RL S f d v g l s/\Fr (·=d) w f
theorem Ir.T5 (s:Ir):s.fail.at'=s.at':=by unfold Ir.fail;split <;> rfl
theorem QT (S:Xs)(d:Nat)(v:Xv)(g:Nat)(l:Xn)(s:Ir)(w:Xw)(H:RL S w d v g l s) :
 xK 146 #[xP d] w (Ql S d v g l w (.tuple #[]) s.fail):=by
 obtain⟨A,h,b,B,k⟩:=zL H.aC;have j:=H.gl.mS;have n:=H.Pg;have i:=H.gl.size;unfold aW at j;obtain⟨p,m⟩:=s;cases m with
 | some q => unfold Nb at b;go_enter func146,ntmps146;go_wp2_with fail;go_end0;exact⟨rfl,H,Fr.refl _ _⟩
 | none =>
   have c:xH w d #[v,xI (p:Nat),.nilIface] 190:=H.aC;unfold Nb at b;simp only at h b;go_enter func146,ntmps146;go_wp2_with fail
   go_region_held3 (λf=>f.cell? (xD 10 0)=some (.iface 316 (.pointer (some (S 10))))/\f.cell? (xD d 1)=some (xI (p:Nat)))
    (refine⟨?_,?_⟩ <;> repeat (first|with_reducible exact j|with_reducible exact h|with_reducible refine zg ?_|with_reducible refine zk (by omega) ?_|with_reducible refine PJ (by decide) ?_|with_reducible refine zd a ?_ (by omega)))
    (first|(go_at_call 30;refine (Qg S 10 _ _).mono ?_;rintro e C ⟨rfl,o⟩;have a:=(zw o);have r:=a.size;obtain⟨t,u,x,y,z⟩:=zL ((a.block d k).trans c)))
   go_end0;refine⟨rfl,?_,((Fr.refl _ w).gA a).aY _ _⟩;exact H.set (((Fr.refl _ w).gA a).aY _ _) (zh _ _ _ _ ((a.block d k).trans c)) H.le
theorem QP (S:Xs)(d:Nat)(v:Xv)(g:Nat)(l:Xn)(s:Ir)(b:Bool)(w:Xw)(H:RL S w d v g l s) :
 xK 86 #[xP d,.bool b] w (Ql S d v g l w (.tuple #[]) (MT b s)):=by
 have h:=QT S d v g l s w H;cases b
 . go_enter func86,ntmps86;go_wp2_with (go_at_call 146;refine h.mono ?_;rintro e i ⟨rfl,a,c⟩);go_end0;exact⟨rfl,a,c⟩
 go_enter func86,ntmps86;go_wp2_with fail;go_end0;exact⟨rfl,H,Fr.refl _ _⟩
theorem OS (l:Xn)(s:Ir)(b:∀x∈l,x<256):(zG l s).1<256:=by
 unfold zG;split
 . split
   . exact Nat.zero_lt_of_lt (show 0<256 by decide)
   rename_i h
   have a:s.at'<l.length:=(by omega);simp only[List.getD_eq_getElem?_getD,av a,Option.getD_some];exact b _ (List.getElem_mem a)
 exact Nat.zero_lt_of_lt (show 0<256 by decide)
theorem PN (S:Xs)(d:Nat)(v:Xv)(g:Nat)(l:Xn)(s:Ir)(w:Xw)(H:RL S w d v g l s) :
 xK 87 #[xP d] w (Ql S d v g l w (.int .u8 ((zG l s).1:Nat)) (zG l s).2):=by
 obtain⟨G,k,j,I,D⟩:=zL H.aC;have ar:=H.Pg;have J:=H.le;have Q:=H.len;have A:=za (QT S d v g l s w H);obtain⟨a,O,rfl,aA,x,n⟩:=H.fq.ex;have R:O<=9223372036854775807:=by unfold maxLen at x;omega
 obtain⟨p,Z⟩:=s;simp only at J;clear x;cases Z with
 | some q =>
   have r:aa (zG l ⟨p,some q⟩=(0,⟨p,some q⟩)):=(by unfold aa zG;rfl);have m:aa ((⟨p,some q⟩:Ir).fail=⟨p,some q⟩):=rfl;rw[m.o] at A;unfold Nb at j;simp only at k j;clear n;by_cases C:l.length<=p
   all_goals
    go_enter func87,ntmps87;go_wp2_with fail;go_quiet (fail);obtain⟨W,h⟩:∃W,W=w.drewN nq:=⟨_,rfl⟩;rw[<- h];have b:aa (xB w W):=h▸PF (yS _ _) nq;have t:=za (H.below b.o);have c:=za (QT S d _ g l ⟨p,some q⟩ W t.o);rw[m.o] at c;obtain⟨L,E,B,M,N⟩:=zL t.o.aC;unfold Nb at B;simp only at E B;clear h G I D A;go_wp2_with (go_at_call 146;refine c.o.mono ?_;rintro e w1 ⟨rfl,k,j⟩;obtain⟨U,F,u,V,X⟩:=zL k.aC;unfold Nb at u;simp only at F u;clear L E B M N);go_ret;rw[r.o]
    first
     | exact⟨rfl,k,(Fr.Mo b.o).trans j⟩
     | exact⟨rfl,t.o,Fr.Mo b.o⟩
 | none =>
   by_cases C:l.length<=p
   . have r:aa (zG l ⟨p,none⟩=(0,⟨p,some p⟩)):=(by unfold aa zG;rw[ag rfl,ag C]);have m:aa ((⟨p,none⟩:Ir).fail=⟨p,some p⟩):=rfl;unfold Nb at j;simp only at k j;clear n;go_enter func87,ntmps87;go_wp2_with fail;go_quiet (fail);obtain⟨W,h⟩:∃W,W=w.drewN nq:=⟨_,rfl⟩;rw[<- h];have b:aa (xB w W):=h▸PF (yS _ _) nq;have t:=za (H.below b.o);have c:=za (QT S d _ g l ⟨p,none⟩ W t.o);rw[m.o] at c;clear h G I D A;go_wp2_with (go_at_call 146;refine c.o.mono ?_;rintro e w1 ⟨rfl,k,j⟩;obtain⟨U,F,u,V,X⟩:=zL k.aC;unfold Nb at u;simp only at F u);go_ret;rw[r.o];exact⟨rfl,k,(Fr.Mo b.o).trans j⟩
   obtain⟨y,z⟩:∃y,l[p]?=some y:=⟨_,av (by omega)⟩;have r:aa (zG l ⟨p,none⟩=(y,⟨p+1,none⟩)):=(by unfold aa zG;rw[ag rfl,ae C];simp only[List.getD_eq_getElem?_getD,z,Option.getD_some]);obtain⟨o,rfl,i⟩:=n (by intro e;rw[e] at z;simp at z);have P:=i p y z;have aL:=H.ne;unfold Nb at j;simp only at k j;have K:xH w d #[.slice (some (xD g o)) l.length O,xI (p:Nat),.nilIface] 190:=H.aC;clear i n z A;go_enter func87,ntmps87;go_wp2_with fail;go_quiet (fail);obtain⟨W,h⟩:∃W,W=w.drewN nq:=⟨_,rfl⟩;rw[<- h];have b:aa (xB w W):=h▸PF (yS _ _) nq;have aV:=b.o.size;obtain⟨L,E,B,M,N⟩:=zL ((b.o.block d D).trans K);have a0:=zd b.o P (H.fq.Bd (by intro e;subst e;simp at C));clear h G I P;go_wp2_with fail;go_quiet (fail);go_wp2_with fail;go_ret;rw[r.o];have hF:Fr (·=d) w ((W.setCell (xD d 1) (xI ((p:Int)+1))).drewN nq):=(Fr.drewN ((Fr.Mo b.o).aY _ _) nq);refine⟨rfl,H.set hF ?_ (show p+1<=l.length by omega),hF⟩;have Y:((p+1:Nat):Int)=(p:Int)+1:=(by omega);simp only[Y,Nb];exact zh _ _ _ _ ((b.o.block d D).trans K)
end
section
def vv (l:Xn)(a:Nat)(s:Ir):Nat×Ir:=((zG l s).1,MT (decide ((zG l s).1<a)) (zG l s).2)
theorem Qe (S:Xs)(c:Nat)(v:Xv)(g:Nat)(l:Xn)(s:Ir)(a:Nat)(_hbd:a<=1000000)(w:Xw)(h:RL S w c v g l s) :
 xK 147 #[xP c,xI (a:Nat)] w (Ql S c v g l w (xI ((vv l a s).1:Nat)) (vv l a s).2):=by
 have o:=za (PN S c v g l s w h);have f:=OS l s h.fq.lt;have j:aa (vv l a s=((zG l s).1,MT (decide ((zG l s).1<a)) (zG l s).2)):=rfl;rcases hR:zG l s with ⟨y,p⟩;rw[hR] at o f j;simp only at o f j;obtain⟨q,k⟩:∃q:Bool,q=decide (y<a):=⟨_,rfl⟩;rw[<- k] at j;have x:=za (λm (b:RL S m c v g l p)=>QP S c v g l p q m b);clear h hR;by_cases i:y<a
 all_goals
  first
   | (have e:q=true:=by rw[k];exact decide_eq_true i
      subst e)
   | (have e:q=false:=by rw[k];exact decide_eq_false i
      subst e)
  clear k;go_enter func147,ntmps147
  go_wp2_with (first
   | (go_at_call 86;revert n;intro n;refine (x.o m n.o).mono ?_;rintro e z ⟨rfl,b,d⟩;have t:=za b;have u:=za d;clear b d)
   | (go_at_call 87;refine o.o.mono ?_;rintro e m ⟨rfl,b,d⟩;have n:=za b;have r:=za d;clear b d))
  go_ret;rw[j.o];exact⟨rfl,t.o,r.o.trans u.o⟩
def NB (l:Xn):Nat->Ir->List Nat×Ir
 | 0,s=>([],s)
 | n+1,s=>((zG l s).1::(NB l n (zG l s).2).1,(NB l n (zG l s).2).2)
def N0 (a:Xn):Nat:=a.foldr (λb v=>b+256*v) 0
theorem Xg (a:Xn)(h:∀x∈a,x<256):N0 a<256 ^ a.length:=by
 induction a with
 | nil=>exact Nat.one_pos
 | cons b a d =>
   have e:=d (λx c=>h x (cS _ c));have f:=h b Mx
   show b+256*N0 a < _;rw[bJ,Nat.pow_succ];omega
theorem Wy (c:Xn)(b:Nat):N0 (c++[b])=N0 c+256 ^ c.length*b:=by
 induction c with
 | nil=>show b+256*0=0+_;simp
 | cons a c d => show a+256*N0 (c++[b])=a+256*N0 c+_;rw[d,bJ,Nat.pow_succ,Nat.mul_add,<- Nat.mul_assoc,Nat.mul_comm 256 (256 ^ c.length)];omega
def MP (l:Xn)(s:Ir):Int×Ir:=(wrap64 (N0 (NB l 8 s).1:Nat),(NB l 8 s).2)
theorem WC (V X:Nat)(d:V<18446744073709551616)(e:X<18446744073709551616)(h:V ||| X=V+X):bits .or .i64 (V:Int) (wrap64 (X:Int))=wrap64 ((V+X:Nat):Int):=by
 have a:(BitVec.ofInt 64 (V:Int)).toNat=V:=by rw[BitVec.ofInt_natCast,BitVec.toNat_ofNat];exact Nat.mod_eq_of_lt (by omega)
 have b:(BitVec.ofInt 64 (wrap64 (X:Int))).toNat=X:=by
  rw[BitVec.toNat_ofInt];unfold wrap64;have:((2 ^ 64:Nat):Int)=18446744073709551616:=by decide
  rw[this];omega
 have c:bits .or .i64 (V:Int) (wrap64 (X:Int))=IntKind.i64.wrap ((BitVec.ofInt 64 (V:Int) ||| BitVec.ofInt 64 (wrap64 (X:Int))).toNat:Int):=rfl;rw[c,BitVec.toNat_or,a,b,h,IntKind.wrap_i64];unfold wrap64;omega
theorem XZ (V b k:Nat)(p:k<8)(j:V<256 ^ k)(o:b<256):bits .or .i64 (V:Int) (wrap64 ((b:Int)*2 ^ (8*k)))=wrap64 ((V+256 ^ k*b:Nat):Int):=by
 have i:(256:Nat) ^ k=2 ^ (8*k):=by rw[show (256:Nat)=2 ^ 8 by decide,<- Nat.pow_mul]
 have n:256 ^ k<=72057594037927936:=by have:(256:Nat) ^ k<=256 ^ 7:=Nat.pow_le_pow_right (by decide) (by omega);exact aJ this (by decide)
 obtain⟨a,c⟩:∃P:Nat,P=2 ^ (8*k):=⟨_,rfl⟩;have g:b <<< (8*k)=b*a:=by rw[Nat.shiftLeft_eq,c]
 have f:b <<< (8*k)+V=b <<< (8*k) ||| V:=Nat.shiftLeft_add_eq_or_of_lt (by rw[<- i];exact j) b
 rw[g] at f;have e:((2:Int) ^ (8*k))=(a:Int):=by rw[c];simp
 rw[i,<- c] at j n ⊢;rw[e];have d:b*a<18446744073709551616:=by have:b*a<=255*a:=Nat.mul_le_mul_right _ (by omega);omega
 have h:V<18446744073709551616:=by omega
 clear c g i e;have m:((b:Int)*(a:Int))=((b*a:Nat):Int):=by simp
 rw[m,Nat.mul_comm a b];obtain⟨X,l⟩:∃X,X=b*a:=⟨_,rfl⟩;rw[<- l] at d f ⊢;clear l m;exact WC V X h d (by rw[Nat.or_comm];omega)
theorem Ry (S:Xs)(d:Nat)(v:Xv)(g:Nat)(l:Xn)(s:Ir)(w:Xw)(h:RL S w d v g l s) :
 xK 145 #[xP d] w (Ql S d v g l w (.int .i64 (MP l s).1) (MP l s).2):=by
 have H:=za h;have r:=za h.fq.lt;clear h;go_enter func145,ntmps145;go_wp2_with fail;go_loopg [3,5] 9 (λj a i wr=>∃(k:Nat) (b:Xn) (t:Ir),k+j=9/\k<=8/\i=xI k/\a=xI (wrap64 (N0 b:Nat))/\aa (b.length=k/\(∀x∈b,x<256)/\NB l 8 s=(b++(NB l (8-k) t).1,(NB l (8-k) t).2))/\aa (RL S wr d v g l t)/\aa (Fr (·=d) w wr));case atStart=>exact⟨0,[],s,rfl,by omega,rfl,by kernel_rfl,za ⟨rfl,(λx hx=>by cases hx),rfl⟩,H.o,Fr.refl _ _⟩
 case round =>
  obtain⟨k,b,t,P,N,rfl,rfl,f,C,B⟩:=hrel;by_cases u:k<8
  . have p:=za (PN S d v g l t wr C.o);have z:=OS l t r.o;have q:aa (NB l (8-k) t=((zG l t).1::(NB l (8-(k+1)) (zG l t).2).1,(NB l (8-(k+1)) (zG l t).2).2)):=by unfold aa;rw[show 8-k=(8-(k+1))+1 by omega];rfl
    rcases hR:zG l t with ⟨y,O⟩;rw[hR] at p z q;simp only at p z q;obtain⟨V,m⟩:∃V,V=N0 b:=⟨_,rfl⟩;rw[<- m];have c:V<256 ^ k:=(by rw[m,<- f.o.1];exact Xg b f.o.2.1);have F:wrap64 (V:Int)=(V:Int):=by
     have:k=0∨k=1∨k=2∨k=3∨k=4∨k=5∨k=6∨k=7:=by omega
     unfold wrap64;rcases this with rfl|rfl|rfl|rfl|rfl|rfl|rfl|rfl <;> simp only[Nat.reducePow] at c <;> omega
    have K:=za (XZ V y k u c z);have L:=za m;rw[F];clear hR m F c;go_wp2_with (go_at_call 87;refine p.o.mono ?_;rintro e Q ⟨rfl,D,E⟩;have G:=za D;have I:=za E;clear D E);rw[K.o];go_roundg (gk-1);case measure=>omega
    case rel =>
     obtain⟨n,A,o⟩:=f.o;refine⟨k+1,b++[y],O,by omega,by omega,by go_num,?_,za ⟨by simp[n],?_,?_⟩,G.o,B.o.trans I.o⟩
     . rw[Wy,<- L.o,n]
     . intro x hx;rcases bj.1 hx with hx|hx
       . exact A x hx
       simp at hx;omega
     rw[o,q.o];simp
  have M:k=8:=by omega
  subst M;obtain⟨n,A,o⟩:=f.o;have J:aa (MP l s=(wrap64 (N0 b:Nat),t)):=by unfold aa MP;rw[o];simp[NB]
  clear n A o;go_wp2_with fail;go_ret;rw[J.o];exact⟨rfl,C.o,B.o⟩
end
section
variable {K:Cd} {x:Int} {B d i:Nat} {T:Xj} {X:Obj} {p j m v v':Xv} {w q f:Xw}
structure UI (B d:Nat) (p j m:Xv) (K:Cd) (w:Xw):Prop where
 aC:w.heap[d]?=some (.cells #[p,xI K.aG,xI K.al,j,xI K.depth,m] 60 (0,0))
 xv:w.ownsRow B 4 1 p K.dn.length (K.dn.map .bool)
 hQ:w.ownsRow B 2 1 j K.cells.length (zK K.cells)
 zA:w.ownsRow B 65 2 m K.row.length (MU K.row)
 Mu:d<B
 d1:∀k,p.ownBlock=some k->¬j.ownBlock=some k/\¬m.ownBlock=some k
 d2:∀k,j.ownBlock=some k->¬m.ownBlock=some k
 hB:B<=w.heap.size
def UC (B d:Nat)(K:Cd)(w:Xw):Prop:=∃p j m,UI B d p j m K w
theorem UI.fr (h:UI B d p j m K w)(hF:Fr T w q)(g:∀k,T k->k<d):UI B d p j m K q:=by have l:=h.Mu;have c:∀k,B<=k->k<w.heap.size->q.heap[k]?=w.heap[k]?:=λk b a=>hF.block k a (λe=>by have:=g k e;omega);exact⟨(hF.block _ (ze h.aC) (λe=>by have:=g _ e;omega)).trans h.aC,zi h.xv (λk b a _=>c k b a),zi h.hQ (λk b a _=>c k b a),zi h.zA (λk b a _=>c k b a),h.Mu,h.d1,h.d2,aJ h.hB hF.size⟩
theorem UC.fr (h:UC B d K w)(hF:Fr T w q)(a:∀k,T k->k<d):UC B d K q:=by obtain⟨p,j,m,h⟩:=h;exact⟨p,j,m,h.fr hF a⟩
theorem UI.Zj (h:UI B d p j m K w)(hF:Fr (λk=>v.ownBlock=some k) (w.alloc X) f)(l:∀k,v.ownBlock=some k->B<=k) :
 (∀k,k<w.heap.size->¬v.ownBlock=some k->¬k=d->(f.setCell (xD d i) v').heap[k]?=w.heap[k]?)/\f.heap[d]?=w.heap[d]?/\w.heap.size<=(f.setCell (xD d i) v').heap.size/\Fr (λk=>d<=k) w (f.setCell (xD d i) v'):=by
 have o:=h.Mu;have s:=h.hB;have t:(w.alloc X).heap.size=w.heap.size+1:=by simp
 have r:=hF.size;have g:∀k,k<w.heap.size->¬v.ownBlock=some k->f.heap[k]?=w.heap[k]?:=λk b a=>(hF.block k (by omega) a).trans (mm _ _ _ b);have c:∀k,k<w.heap.size->¬v.ownBlock=some k->¬k=d->(f.setCell (xD d i) v').heap[k]?=w.heap[k]?:=λk b a n=>zr n (g k b a);have u:(f.setCell (xD d i) v').heap.size=f.heap.size:=by simp
 refine⟨c,g d (by omega) (λe=>by have:=l _ e;omega),by omega,hF.os,hF.tape,hF.output,by omega,λk b a=>c k b (λe=>a (by have:=l _ e;show d<=k;omega)) (λe=>a (Nat.le_of_eq e.symm))⟩
theorem UI.ace {b:Bool}(h:UI B d p j m K w)(hF:Fr (λk=>p.ownBlock=some k) (w.alloc X) f)
 (c:f.ownsRow B 4 1 v' (K.dn.length+1) (K.dn.map .bool++[.bool b])) (a:∀k,v'.ownBlock=some k->p.ownBlock=some k∨w.heap.size+1<=k) :
 UC B d { K with dn:=K.dn++[b] } (f.setCell (xD d 0) v')/\Fr (λk=>d<=k) w (f.setCell (xD d 0) v'):=by
 obtain⟨o,r,s,t⟩:=h.Zj (i:=0) (v':=v') hF (λk e=>(h.xv.lt k e).1);have u:=h.Mu;refine⟨⟨v',j,m,zh _ _ _ _ (r.trans h.aC),?_,zi h.hQ (λk n e2 e=>o k e2 (λg=>(h.d1 k g).1 e) (by omega)),zi h.zA (λk n e2 e=>o k e2 (λg=>(h.d1 k g).2 e) (by omega)),h.Mu,λk e=>?_,h.d2,aJ h.hB s⟩,t⟩
 . have:=zi c (w':=f.setCell (xD d 0) v') (λk n e2 _=>zr (by omega) rfl)
   show World.ownsRow _ B 4 1 v' (K.dn++[b]).length ((K.dn++[b]).map .bool);rw[aP,List.map_append];exact this
 rcases a k e with e2|e2
 . exact h.d1 k e2
 exact⟨λl=>by have:=(h.hQ.lt _ l).2;omega,λl=>by have:=(h.zA.lt _ l).2;omega⟩
theorem Wg (l:List Int)(x:Int):zK (l++[x])=zK l++[xI x]:=by unfold zK;simp
theorem UI.Re (h:UI B d p j m K w)(hF:Fr (λk=>j.ownBlock=some k) (w.alloc X) f)
 (c:f.ownsRow B 2 1 v' (K.cells.length+1) (zK K.cells++[xI x])) (a:∀k,v'.ownBlock=some k->j.ownBlock=some k∨w.heap.size+1<=k) :
 UC B d { K with cells:=K.cells++[x] } (f.setCell (xD d 3) v')/\Fr (λk=>d<=k) w (f.setCell (xD d 3) v'):=by
 obtain⟨l,o,r,s⟩:=h.Zj (i:=3) (v':=v') hF (λk e=>(h.hQ.lt k e).1);have t:=h.Mu;refine⟨⟨p,v',m,zh _ _ _ _ (o.trans h.aC),zi h.xv (λk g e2 e=>l k e2 (λb=>(h.d1 k e).1 b) (by omega)),?_,zi h.zA (λk g e2 e=>l k e2 (λb=>h.d2 k b e) (by omega)),h.Mu,λk e=>⟨λb=>?_,(h.d1 k e).2⟩,λk e=>?_,aJ h.hB r⟩,s⟩
 . have:=zi c (w':=f.setCell (xD d 3) v') (λk g e2 _=>zr (by omega) rfl)
   show World.ownsRow _ B 2 1 v' (K.cells++[x]).length (zK (K.cells++[x]));rw[aP,Wg];exact this
 . rcases a k b with e2|e2
   . exact (h.d1 k e).1 e2
   have:=(h.xv.lt _ e).2;omega
 rcases a k e with e2|e2
 . exact h.d2 k e2
 exact λn=>by have:=(h.zA.lt _ n).2;omega
theorem UI.Rb {c:Nat}(h:UI B d p j m K w)(hF:Fr (λk=>m.ownBlock=some k) (w.alloc X) f)
 (g:f.ownsRow B 65 2 v' (K.row.length+1) (MU K.row++[.int .u8 (c:Int),xI x])) (a:∀k,v'.ownBlock=some k->m.ownBlock=some k∨w.heap.size+1<=k) :
 UC B d { K with row:=K.row++[(c,x)] } (f.setCell (xD d 5) v')/\Fr (λk=>d<=k) w (f.setCell (xD d 5) v'):=by
 obtain⟨n,o,r,s⟩:=h.Zj (i:=5) (v':=v') hF (λk e=>(h.zA.lt k e).1);have t:=h.Mu;refine⟨⟨p,j,v',zh _ _ _ _ (o.trans h.aC),zi h.xv (λk l e2 e=>n k e2 (λb=>(h.d1 k e).2 b) (by omega)),zi h.hQ (λk l e2 e=>n k e2 (λb=>h.d2 k e b) (by omega)),?_,h.Mu,λk e=>⟨(h.d1 k e).1,λb=>?_⟩,λk e b=>?_,aJ h.hB r⟩,s⟩
 . have:=zi g (w':=f.setCell (xD d 5) v') (λk l e2 _=>zr (by omega) rfl);have e:MU (K.row++[(c,x)])=MU K.row++[.int .u8 (c:Int),xI x]:=by unfold MU;rw[List.flatMap_append];rfl
   show World.ownsRow _ B 65 2 v' (K.row++[(c,x)]).length (MU (K.row++[(c,x)]));rw[aP,e];exact this
 . rcases a k b with e2|e2
   . exact (h.d1 k e).2 e2
   have:=(h.xv.lt _ e).2;omega
 rcases a k b with e2|e2
 . exact h.d2 k e e2
 have:=(h.hQ.lt _ e).2;omega
theorem UI.Rj {u:Xv}{K':Cd}(h:UI B d p j m K w)(l:xH (w.setCell (xD d i) u) d #[p,xI K'.aG,xI K'.al,j,xI K'.depth,m] 60)(c:K'.dn=K.dn)(e:K'.cells=K.cells)(g:K'.row=K.row) :
 UI B d p j m K' (w.setCell (xD d i) u)/\Fr (λk=>d<=k) w (w.setCell (xD d i) u):=by
 have n:=h.Mu;have o:(w.setCell (xD d i) u).heap.size=w.heap.size:=by simp
 refine⟨⟨l,?_,?_,?_,h.Mu,h.d1,h.d2,by have:=h.hB;omega⟩,((Fr.refl (λk=>d<=k) w).setCell (ao (an _)) u)⟩
 . rw[c];exact zi h.xv (λk a b _=>zr (by omega) rfl)
 . rw[e];exact zi h.hQ (λk a b _=>zr (by omega) rfl)
 rw[g];exact zi h.zA (λk a b _=>zr (by omega) rfl)
def M8 (l:Xn):Nat->Ir->List Bool×Ir
 | 0,s=>([],s)
 | n+1,s=>(((vv l 2 s).1==1)::(M8 l n (vv l 2 s).2).1,(M8 l n (vv l 2 s).2).2)
def Nj (l:Xn):Nat->Ir->List Int×Ir
 | 0,s=>([],s)
 | n+1,s=>((MP l s).1::(Nj l n (MP l s).2).1,(Nj l n (MP l s).2).2)
def M2 (l:Xn)(s:Ir):Cd×Ir :=
 let b:=zG l s
 let r:=M8 l b.1 b.2
 let o:=zG l r.2
 let t:=zG l o.2
 let n:=vv l 61 (MT (decide (r.1.length+o.1<=t.1)) t.2)
 let c:=Nj l n.1 n.2
 (⟨r.1,o.1,t.1,c.1,0,[]⟩,c.2)
theorem RL.code {S:Xs}{b g:Nat}{l:Xn}{s:Ir}(h:RL S w b v g l s)(hF:Fr (λk=>d<=k) w q)(A:b<d)(y:l≠[]->g<d)(o:21<=d):RL S q b v g l s:=by
 refine⟨(hF.block b (ze h.aC) (by omega)).trans h.aC,?_,h.le,h.len,h.ne,h.Pg,h.gl.of hF (λk e=>aJ o e),h.Oj.am (hF.am h.gl.size (λk e=>aJ o e)) (an _)⟩;by_cases n:l=[]
 . obtain⟨a,c,r,t,u,z⟩:=h.fq.ex;exact⟨⟨a,c,r,t,u,λh=>absurd n h⟩,h.fq.lt⟩
 exact h.fq.of (hF.block g (h.fq.Bd n) (by have:=y n;omega))
end
section
theorem Tryz.T9:(prog.info? 4).map (λi=>(i.zero,i.size,i.bytes))=some (some (.bool false),1,1):=by kernel_rfl
theorem Tryz.Ub:(prog.info? 2).map (λi=>(i.zero,i.size,i.bytes))=some (some (xI 0),1,8):=by kernel_rfl
theorem QN (l:Xn)(a:Nat)(s:Ir)(b:∀x∈l,x<256):(vv l a s).1<256:=OS l s b
theorem Yr {b:Bool}:∀u∈[Value.bool b],u.oneCell'=true:=by simp[Value.oneCell']
theorem Tv {b:Int}:∀u∈[xI b],u.oneCell'=true:=by simp[Value.oneCell']
theorem YD (w:Xw):UI (w.heap.size+1) w.heap.size (.slice none 0 0) (.slice none 0 0) (.slice none 0 0) ⟨[],0,0,[],0,[]⟩ (w.alloc (.cells #[.slice none 0 0,xI 0,xI 0,.slice none 0 0,xI 0,.slice none 0 0] 60)) :=
 ⟨zc w _,World.ownsRow_nil _ _ _ _,World.ownsRow_nil _ _ _ _,World.ownsRow_nil _ _ _ _,by omega,(λk e=>by simp[Value.ownBlock] at e),(λk e=>by simp[Value.ownBlock] at e),by simp⟩
theorem Fr.QC {a c:Nat}{w b d:Xw}(h:Fr (·=a) w b)(k:Fr (λk=>c<=k) b d)(f:w.heap.size<=c):Fr (·=a) w d:=h.dr k (λi g e=>by have:c<=i:=e;omega)
theorem X5 (S:Xs)(f:Nat)(v:Xv)(g:Nat)(l:Xn)(s:Ir)(w:Xw)(h:RL S w f v g l s) :
 xK 88 #[xP f] w (λe w'=>e=.returned (xP w.heap.size)/\RL S w' f v g l (M2 l s).2/\UC (w.heap.size+1) w.heap.size (M2 l s).1 w'/\Fr (·=f) w w'):=by
 obtain⟨i1,cB,bK,bL,bY⟩:=info_parts Tryz.T9;obtain⟨i2,cE,b0,b1,b2⟩:=info_parts Tryz.Ub;have P:=za h.fq.lt;have z:=ze h.aC;have ds:=h.gl.size;have cd:=za (λdP=>h.fq.Bd dP);have hy:=OS l s h.fq.lt;have cb:=za (λo:Obj=>PN S f v g l s (w.alloc o) (h.below ((yS _ w).alloc (an _) o)));obtain⟨C,H⟩:∃C,C=M2 l s:=⟨_,rfl⟩;rw[<- H];rcases hR:zG l s with ⟨n,s1⟩;rw[hR] at cb hy;simp only at cb hy
 have E:aa (C=(let r:=M8 l n s1
  let o:=zG l r.2
  let t:=zG l o.2
  let n:=vv l 61 (MT (decide (r.1.length+o.1<=t.1)) t.2)
  let c:=Nj l n.1 n.2
  (⟨r.1,o.1,t.1,c.1,0,[]⟩,c.2))):=by rw[H];unfold M2;rw[hR];rfl
 clear hR H h;go_enter func88,ntmps88;go_wp2_with (go_at_call 87;refine (cb.o _).mono ?_;rintro e d ⟨rfl,b,a⟩;have K:=za b;have bg:=za (UC.fr ⟨_,_,_,YD w⟩ a (λk e=>e▸z));have a6:=za (((Fr.refl (·=f) w).alloc _).trans a);clear b a);go_loopg [8] (n+1) (λj i wr=>∃(k:Nat) (A:Xk) (t:Ir),k+j=n+1/\k<=n/\i=.int .u8 k/\aa (A.length=k)/\aa (M8 l n s1=(A++(M8 l (n-k) t).1,(M8 l (n-k) t).2))/\aa (RL S wr f v g l t)/\aa (UC (w.heap.size+1) w.heap.size ⟨A,0,0,[],0,[]⟩ wr)/\aa (Fr (·=f) w wr));case atStart=>exact⟨0,[],s1,by omega,by omega,rfl,za rfl,za rfl,K.o,bg.o,a6.o⟩
 case round =>
  obtain⟨k,A,t,eG,dM,rfl,O,ar,a4,a5,a2⟩:=hrel;have du:A.length<=256:=by have:=O.o;omega
  clear K bg a6;by_cases dV:k<n
  . have Y:=za (Qe S f v g l t 2 (by decide) wr.drew (a4.o.below (zo (yS _ _))));have J:=QN l 2 t P.o;have V:aa (M8 l (n-k) t=(((vv l 2 t).1==1)::(M8 l (n-(k+1)) (vv l 2 t).2).1,(M8 l (n-(k+1)) (vv l 2 t).2).2)):=by unfold aa;rw[show n-k=(n-(k+1))+1 by omega];rfl
    rcases hR:vv l 2 t with ⟨y,t1⟩;rw[hR] at Y J V;simp only at Y J V;obtain⟨q,a1⟩:∃q:Bool,q=(y==1):=⟨_,rfl⟩;rw[<- a1] at V
    have dY:((y:Int)==1)=q:=by rw[a1];cases y with
     | zero=>rfl
     | succ y=>cases y with
       | zero=>rfl
       | succ y=>simp;omega
    obtain⟨dl,cv,rv,F⟩:=a5.o;obtain⟨cl,T,rfl⟩:=kE F.xv;obtain⟨m0,m1,m2,m3,m4,m5,ea,eb⟩:=zt F.aC;have aL:A.length+1<=maxLen:=(by unfold maxLen;omega);have aA:(A.length+1)*1<=140737488355328:=(by omega);have cO:¬w.heap.size=f:=(by omega);have a3:=za F;simp only at m0 m1;clear F hR a1 m2 m3 m4 m5;go_wp2_with fail
    go_region_law (first
     | (revert K;intro K;refine zJ _ rfl (.tmp 14) (.tmp 18) 57 rfl (w.heap.size+1) 4 i1 _ 1 1 underlying57 cB bK bL bY rfl (by decide) (.slice cl A.length T) A.length (A.map .bool) rfl (zD D.o.xv _) (xD d.heap.size 0) 1 1 [.bool _] rfl rfl (zN (zc d _) rfl) Yr aL aA (by simp;omega) ?_;intro v' w9 p x B;obtain⟨g9,bv,rfl,cA⟩:=zM p (by omega);have G:=Fr.gi x;have I:=(G.block w.heap.size (by simp;omega) (λh=>by have:=(D.o.xv.lt _ h).1;omega)).trans ((mm _ _ _ (by omega)).trans D.o.aC);obtain⟨d0,d1,d2,d3,d4,d5,co,dz⟩:=zt I;clear x I)
     | (refine rl rfl 147 (.tmp 15) (.const (xI 2)) 259 3 rfl (λ_ _=>by kernel_rfl) _ _ rfl rfl Y.o ?_;rintro e d ⟨rfl,b,a⟩;refine⟨_,rfl,?_⟩;have K:=za b;have D:=za (a3.o.fr a.cQ (λk e=>e▸z));obtain⟨c0,c1,c2,c3,c4,c5,bx,cz⟩:=zt D.o.aC;have Z:=za a.cQ;have cR:wr.heap.size<=d.heap.size:=a.size;have ct:=D.o.hB;clear b a))
    all_goals go_wp2_with fail
    all_goals go_roundg (gk-1)
    all_goals first
     | omega
     | (have H:=D.o.ace G p (λk e=>(B k e).imp id (λh=>by have h':(d.alloc (.cells #[.bool q] 4)).heap.size<=k:=h;rw[au] at h';exact h'))
        exact⟨k+1,A++[q],t1,by omega,by omega,by go_num,za (by rw[aP,O.o];rfl),za (by rw[ar.o,V.o];simp),K.o.code H.2 z cd.o (by omega),H.1,(a2.o.trans Z.o).QC H.2 (an _)⟩)
  have ek:k=n:=by omega
  subst ek;have bA:M8 l k s1=(A,t):=by rw[ar.o,Nat.sub_self];simp[M8]
  rw[bA] at E;simp only at E;have cK:=O.o;clear ar bA O cK;have b4:=OS l t P.o;have L:=za (λd (b:RL S d f v g l t)=>PN S f v g l t d b);rcases hR1:zG l t with ⟨o,t1⟩;rw[hR1] at L b4 E;simp only at L b4 E;have J:=OS l t1 P.o;have M:=za (λd (b:RL S d f v g l t1)=>PN S f v g l t1 d b);rcases hR2:zG l t1 with ⟨X,t2⟩;rw[hR2] at M J E;simp only at M J E;obtain⟨q,a1⟩:∃q:Bool,q=decide (A.length+o<=X):=⟨_,rfl⟩;rw[<- a1] at E;have cm:=za (λd (b:RL S d f v g l t2)=>QP S f v g l t2 q d b);obtain⟨t3,b3⟩:∃t3,t3=MT q t2:=⟨_,rfl⟩;rw[<- b3] at E cm;have ca:=QN l 61 t3 P.o;have N:=za (λd (b:RL S d f v g l t3)=>Qe S f v g l t3 61 (by decide) d b);rcases hR3:vv l 61 t3 with ⟨m,t4⟩;rw[hR3] at N ca E;simp only at N ca E;clear hR1 hR2 hR3 b3 cb;obtain⟨ck,rfl⟩:∃ck,ck=wr:=⟨_,rfl⟩;obtain⟨dl,cv,rv,F⟩:=a5.o;obtain⟨cl,T,rfl⟩:=kE F.xv;have a3:=za F;have cO:¬w.heap.size=f:=by omega
  have dq:¬f=w.heap.size:=by omega
  clear F a5
  go_upto_region 8 with (first
   | (go_at_call 87;revert ce;intro ce;refine (M.o _ ce.o).mono ?_;rintro e w2 ⟨rfl,b,a⟩;have bp:=za b;have Q:=za (ch.o.1.fr a (λk e=>e▸z));obtain⟨d0,d1,d2,d3,d4,d5,co,dz⟩:=zt Q.o.aC;have bs:=za a;have R:=za (Q.o.Rj (i:=2) (u:=(xI (X:Nat))) (K':=⟨A,o,X,[],0,[]⟩) (zh _ _ _ _ Q.o.aC) rfl rfl rfl);have c6:=za (bp.o.code R.o.2 z cd.o (by omega));clear b a)
   | (go_at_call 87;refine (L.o _ a4.o).mono ?_;rintro e d ⟨rfl,b,a⟩;have bo:=za b;have cg:=za (a3.o.fr a (λk e=>e▸z));obtain⟨c0,c1,c2,c3,c4,c5,bx,cz⟩:=zt cg.o.aC;have bq:=za a;have ch:=za (cg.o.Rj (i:=1) (u:=(xI (o:Nat))) (K':=⟨A,o,0,[],0,[]⟩) (zh _ _ _ _ cg.o.aC) rfl rfl rfl);have ce:=za (bo.o.code ch.o.2 z cd.o (by omega));clear b a))
  have c9:=za ((((a2.o.trans bq.o).QC ch.o.2 (an _)).trans bs.o).QC R.o.2 (an _));refine zn (λW=>UI (w.heap.size+1) w.heap.size (.slice cl A.length T) cv rv ⟨A,o,X,[],0,[]⟩ W/\RL S W f v g l t2/\Fr (·=f) w W) ⟨R.o.1,c6.o,c9.o⟩ ?_;rintro W ⟨a0,bC,bB⟩;obtain⟨p0,em,eq,p3,er,es,ev,ex⟩:=zt a0.aC;have bb:=za a0;have be:=za bC;have a9:=za bB;clear a0 bC bB c9 ce c6 ch R Q bq bs cg a2 a4 a3 bo bp c0 c1 c2 c3 c4 c5 bx cz d0 d1 d2 d3 d4 d5 co dz d w2;have bE:decide (IntKind.i64.wrap ((A.length:Int)+(o:Int))<=(X:Int))=q:=by rw[a1];apply decide_eq_decide.2;rw[IntKind.wrap_i64];omega
  clear a1
  go_region_held3 (λw'=>w'.cell? (xD w.heap.size 0)=some (.slice cl A.length T)/\w'.cell? (xD w.heap.size 1)=some (xI (o:Nat))/\w'.cell? (xD w.heap.size 2)=some (xI (X:Nat)))
   (with_reducible (refine⟨?_,?_,?_⟩ <;> repeat (first|assumption|refine zg ?_)))
   (first|(go_at_call 86;refine (cm.o _ (be.o.below (zo (yS _ _)))).mono ?_;rintro e d ⟨rfl,b,a⟩;have da:=za b;have aV:=za (bb.o.fr a.cQ (λk e=>e▸z));obtain⟨c0,c1,c2,c3,c4,c5,bx,cz⟩:=zt aV.o.aC;have bt:=za (a9.o.trans a.cQ);clear b a))
  have bk:aa (UC (w.heap.size+1) w.heap.size ⟨A,o,X,[],0,[]⟩ d):=⟨_,_,_,aV.o⟩;clear a9 be bb p0 em eq p3 er es ev ex;all_goals go_wp2_with (go_at_call 147;refine (N.o _ da.o).mono ?_;rintro e w2 ⟨rfl,b,a⟩;have dc:=za b;have dk:=za (bk.o.fr a (λk e=>e▸z));have di:=za (bt.o.trans a);clear b a)
  obtain⟨eE,rfl⟩:∃ck,ck=w2:=⟨_,rfl⟩;clear bk aV bt da c0 c1 c2 c3 c4 c5 bx cz cm L M N bE;go_loopg [54] (m+1) (λj i wr=>∃(k:Nat) (cs:List Int) (u:Ir),k+j=m+1/\k<=m/\i=xI k/\aa (cs.length=k)/\aa (Nj l m t4=(cs++(Nj l (m-k) u).1,(Nj l (m-k) u).2))/\aa (RL S wr f v g l u)/\aa (UC (w.heap.size+1) w.heap.size ⟨A,o,X,cs,0,[]⟩ wr)/\aa (Fr (·=f) w wr));case atStart=>exact⟨0,[],t4,by omega,by omega,rfl,za rfl,za rfl,dc.o,dk.o,di.o⟩
  case round =>
   obtain⟨U,cs,u,dH,dL,rfl,bl,ar,a4,a5,a2⟩:=hrel;have dw:cs.length<=256:=(by have:=bl.o;omega);clear dc dk di;by_cases dp:U<m
   . have Y:=za (Ry S f v g l u wr.drew (a4.o.below (zo (yS _ _))));have V:aa (Nj l (m-U) u=((MP l u).1::(Nj l (m-(U+1)) (MP l u).2).1,(Nj l (m-(U+1)) (MP l u).2).2)):=(by unfold aa;rw[show m-U=(m-(U+1))+1 by omega];rfl);rcases hR:MP l u with ⟨y,u1⟩;rw[hR] at Y V;simp only at Y V;obtain⟨dl,cv,rv,F⟩:=a5.o;obtain⟨eF,cn,rfl⟩:=kE F.hQ;obtain⟨m0,m1,m2,m3,m4,m5,ea,eb⟩:=zt F.aC;have aL:cs.length+1<=maxLen:=(by unfold maxLen;omega);have aA:(cs.length+1)*8<=140737488355328:=(by omega);have a3:=za F;simp only at m1 m3;clear F hR m0 m2 m4 m5;go_wp2_with fail
     go_region_law (first
      | (revert K;intro K;refine zJ _ rfl (.tmp 60) (.tmp 63) 36 rfl (w.heap.size+1) 2 i2 _ 1 8 underlying36 cE b0 b1 b2 rfl (by decide) (.slice eF cs.length cn) cs.length (zK cs) rfl (zD D.o.hQ _) (xD d.heap.size 0) 1 1 [xI y] rfl rfl (zN (zc d _) rfl) Tv aL aA (by simp;omega) ?_;intro v' w9 p x B;obtain⟨g9,bv,rfl,cA⟩:=zM p (by omega);have G:=Fr.gi x;have I:=(G.block w.heap.size (by simp;omega) (λh=>by have:=(D.o.hQ.lt _ h).1;omega)).trans ((mm _ _ _ (by omega)).trans D.o.aC);obtain⟨d0,d1,d2,d3,d4,d5,co,dz⟩:=zt I;clear x I)
      | (refine kD rfl 145 (.tmp 61) 259 rfl (λ_ _=>by kernel_rfl) _ rfl Y.o ?_;rintro e d ⟨rfl,b,a⟩;refine⟨_,rfl,?_⟩;have K:=za b;have D:=za (a3.o.fr a.cQ (λk e=>e▸z));obtain⟨c0,c1,c2,c3,c4,c5,bx,cz⟩:=zt D.o.aC;have Z:=za a.cQ;have cR:wr.heap.size<=d.heap.size:=a.size;have ct:=D.o.hB;clear b a))
     all_goals go_wp2_with fail
     all_goals go_roundg (gk-1)
     all_goals first
      | omega
      | (have H:=D.o.Re G p (λk e=>(B k e).imp id (λh=>by have h':(d.alloc (.cells #[xI y] 2)).heap.size<=k:=h;rw[au] at h';exact h'))
         exact⟨U+1,cs++[y],u1,by omega,by omega,by go_num,za (by rw[aP,bl.o];rfl),za (by rw[ar.o,V.o];simp),K.o.code H.2 z cd.o (by omega),H.1,(a2.o.trans Z.o).QC H.2 (an _)⟩)
   have ek:U=m:=(by omega);subst ek;have bA:Nj l U t4=(cs,u):=(by rw[ar.o,Nat.sub_self];simp[Nj]);rw[bA] at E;simp only at E;clear ar bA;go_wp2_with fail;go_ret;rw[E.o];exact⟨rfl,a4.o,a5.o,a2.o⟩
end
end Go.Proofs.YtcnelakggnfnhaaGreatDoor
