/- Part 2. -/
import Derived.Deep.CutBlock
import Derived.Deep.DeepCutAuto
import Derived.Deep.LoopGhost
import Derived.Deep.RegionLaw
import Derived.Test.YtcnelakggnfnhaaGreatDoorK00
set_option maxRecDepth 100000
set_option maxHeartbeats 8000000
namespace Go.Proofs.YtcnelakggnfnhaaGreatDoor
open Go.Proofs.Tryz
section
open Go.RowKit
def Tk.dX (src:Xb)(t:Tk):Value:=.agg #[xI (ck t),.string (cs src t),xI t.a,xI (cn t)]
theorem Jp (s:Xb)(a:Nat)(d:a<=s.size):nV (s.extract a s.size) a=(eM s a).dX s:=by
 have c:=rr b6 s a d;have i:=jl b6 s a d;have j:=ll b6 s a;obtain⟨n,f⟩:∃n,zQ b6 (s.extract a s.size) 0=n:=⟨_,rfl⟩;rw[f] at c;have g:(s.extract a s.size).extract 0 n=s.extract a (zQ b6 s a):=by rw[nC s a n (by omega),<- c];congr 1;omega
 unfold nV eM;simp only[f,g];have h:(s.extract a (zQ b6 s a)).size=zQ b6 s a-a:=by rw[ByteArray.size_extract];omega
 rw[h];cases k:ep (s.extract a (zQ b6 s a)) with
 | true=>rfl
 | false =>
   by_cases e:zQ b6 s a-a<=12
   . have b:¬zQ b6 s a-a > 12:=(by omega);simp[e,b,Tk.dX,ci,ck,cs,cn]
   have b:zQ b6 s a-a > 12:=(by omega);simp[e,b,Tk.dX,ci,ck,cs,cn]
theorem JG (s:Xb)(a:Nat)(b:a<=s.size):∀f i x,dR (s.extract a s.size) f i x=dR s f (a+i) x:=by
 intro f;induction f with
 | zero=>intro i x;rfl
 | succ f d =>
   intro i x
   show (if i<(s.extract a s.size).size/\zT (bt (s.extract a s.size) i)=true then _ else x)=(if a+i<s.size/\zT (bt s (a+i))=true then _ else x);rw[jZ s a b,nP s a i b];by_cases h:i<s.size-a/\zT (bt s (a+i))=true
   . rw[ag h,ag (show a+i<s.size/\zT (bt s (a+i))=true from ⟨by omega,h.2⟩),d (i+1)];rfl
   rw[ae h,ae (show ¬(a+i<s.size/\zT (bt s (a+i))=true) from λc=>h ⟨by omega,c.2⟩)]
theorem Kk (s:Xb)(a:Nat)(b:a<=s.size):pK (s.extract a s.size) a=(fc s a).dX s:=by
 have c:=rr zT s a b;have f:=jl zT s a b;obtain⟨n,d⟩:∃n,zQ zT (s.extract a s.size) 0=n:=⟨_,rfl⟩;rw[d] at c;have e:(s.extract a s.size).extract 0 n=s.extract a (zQ zT s a):=by rw[nC s a n (by omega),<- c];congr 1;omega
 unfold pK fc;rw[JG s a b,jZ s a b];simp only[d,e,Nat.add_zero,Nat.sub_zero];cases g:(dR s (s.size-a) a (true,0)).1 with
 | true=>rfl
 | false=>rfl
theorem JT (s:Xb)(a:Nat)(h:a<s.size):pB (s.extract a s.size) a=(dT s a).dX s:=by
 unfold pB dT;rw[jZ s a (by omega),nP s a 0 (by omega)];have d:(s.extract a s.size).extract 0 1=s.extract a (a+1):=nC s a 1 (by omega);have b:(2<=s.size-a/\(((s.extract a s.size).extract 0 2).toList==[45,62]||((s.extract a s.size).extract 0 2).toList==[60,62]||((s.extract a s.size).extract 0 2).toList==[60,61])=true)=(a+2<=s.size/\((s.extract a (a+2)).toList==[45,62]||(s.extract a (a+2)).toList==[60,62]||(s.extract a (a+2)).toList==[60,61])=true):=by
  apply propext;by_cases g:a+2<=s.size
  . rw[nC s a 2 g];constructor <;> (rintro⟨e,f⟩;exact⟨by omega,f⟩)
  constructor <;> (rintro⟨e,_⟩;omega)
 by_cases c:(a+2<=s.size/\((s.extract a (a+2)).toList==[45,62]||(s.extract a (a+2)).toList==[60,62]||(s.extract a (a+2)).toList==[60,61])=true)
 . rw[ag (b▸c),ag c,nC s a 2 c.1];rfl
 rw[ae (b▸c),ae c,d];simp only[Nat.add_zero];split <;> rfl
theorem xJ (S:Xs)(s:Xb)(p:Nat)(w:Xw)(a1:s.size<=1200)(P:p<=s.size)(V:Gl S w):xK 31 #[.string s,xI p] w λe k=>e=.returned ((zZ s p).dX s)/\xB w k:=by
 have z:=jZ s p P;have Q:=rr cM s p P;have aA:=ll cM s p;have d:=jl cM s p P;obtain⟨n,C⟩:∃n,zQ cM (s.extract p s.size) 0=n:=⟨_,rfl⟩;rw[C] at Q;have aV:=za C;have g:=za (mj _ cM Ii Ib (s.extract p s.size) (by omega));rw[C] at g;have f:aa (zZ s p=if zQ cM s p=s.size then ⟨0,zQ cM s p,zQ cM s p,⟨#[]⟩,0⟩ else if gv (bt s (zQ cM s p)) then eM s (zQ cM s p) else if zT (bt s (zQ cM s p)) then fc s (zQ cM s p) else dT s (zQ cM s p)):=rfl;generalize zQ cM s p=q at *;have Y:=za V;have aL:IntKind.i64.wrap ((p:Int)+(n:Int))=(q:Nat):=by rw[IntKind.wrap_i64];omega
 have W:(p:Int)+(n:Int)=(q:Nat):=by omega
 have D:q<=1200:=by omega
 have y:(s.extract q s.size).size=s.size-q:=jZ s q d;clear C V z;by_cases x:q=s.size
 . have N:(s.extract q s.size).toList.isEmpty=true:=by rw[List.isEmpty_iff,<- List.length_eq_zero_iff,ri,y];omega
   rw[ag x] at f;have a0:=za x;clear x;go_enter func31,ntmps31;go_wp2_with (go_at_call 65;refine (g.o _).mono ?_;rintro e k ⟨rfl,rfl⟩);refine ab (v:=ci 1 ⟨#[]⟩ q 0) (by simp[results,results31,go_sem,ci]) rfl ⟨by rw[f.o];rfl,(yS _ _).alloc (an _) _⟩
 have O:q<s.size:=by omega
 have N:(s.extract q s.size).toList.isEmpty=false:=by rw[Bool.eq_false_iff];intro h;rw[List.isEmpty_iff,<- List.length_eq_zero_iff,ri,y] at h;omega
 have o:0<(s.extract q s.size).size:=by omega
 have l:=QZ o;rw[nP s q 0 d,Nat.add_zero] at l;have Z:=za l;rw[ae x] at f;obtain⟨c,M⟩:∃c,bt s q=c:=⟨_,rfl⟩;rw[M] at l f;have ar:=za M;have r:(s.extract q s.size).size<=1200:=by omega
 have K:=za (Jp s q d);have F:=za (Kk s q d);have I:=za (JT s q O);have J:=za (λA=>Jm (s.extract q s.size) r q A);have H:=za (λA=>Jt (s.extract q s.size) r o q A);clear M x;cases t:gv c with
 | true => rw[t,ag rfl] at f;have B:=za t;clear t;go_enter func31,ntmps31;go_wp2_with (first|(go_at_call 65;refine (g.o _).mono ?_;rintro e k ⟨rfl,rfl⟩)|(go_at_call 67;refine (PH c _).mono ?_;rintro e k ⟨rfl,rfl⟩;rw[B.o]));refine (J.o _).mono ?_;rintro e X ⟨rfl,a⟩;rw[K.o];have b:=(a.block w.heap.size (Nat.lt_of_lt_of_eq (cf _) (by simp))).trans (zc w _);obtain⟨d0,d1,d2,d3,R,U⟩:=zU b;have j:=za b;have i:=za a;clear a b;simp only[Tk.dX];go_wp2_with fail;refine ab (v:=(zZ s p).dX s) (by rw[f.o];exact PI rfl rfl (kB j.o _ _ _ _)) rfl ⟨rfl,?_⟩;exact (((((nK i.o).setCell (an _) _).setCell (an _) _).setCell (an _) _).setCell (an _) _)
 | false =>
   rw[t,ae (by simp)] at f;have B:=za t;clear t;cases m:zT c with
   | true => rw[m,ag rfl] at f;have E:=za (λA h=>Ic S (s.extract q s.size) r o (by rw[nP s q 0 d,Nat.add_zero,ar.o];exact m) q A h);have L:=za m;have u:=Y.o.of (T:=λ_=>False) ((Fr.refl _ w).alloc (.cells #[xI 0,.string ⟨#[]⟩,xI 0,xI 0] 102)) (λ_ h=>h.elim);have G:=za u;clear m u;go_enter func31,ntmps31;go_wp2_with (first|(go_at_call 65;refine (g.o _).mono ?_;rintro e k ⟨rfl,rfl⟩)|(go_at_call 67;refine (PH c _).mono ?_;rintro e k ⟨rfl,rfl⟩;rw[B.o])|(go_at_call 69;refine (mf c _).mono ?_;rintro e k ⟨rfl,rfl⟩;rw[L.o]));refine (E.o _ G.o).mono ?_;rintro e X ⟨rfl,a⟩;rw[F.o];have b:=(a.block w.heap.size (Nat.lt_of_lt_of_eq (cf _) (by simp))).trans (zc w _);obtain⟨d0,d1,d2,d3,R,U⟩:=zU b;have j:=za b;have i:=za a;clear a b;simp only[Tk.dX];go_wp2_with fail;refine ab (v:=(zZ s p).dX s) (by rw[f.o];exact PI rfl rfl (kB j.o _ _ _ _)) rfl ⟨rfl,?_⟩;exact (((((nK i.o).setCell (an _) _).setCell (an _) _).setCell (an _) _).setCell (an _) _)
   | false => rw[m,ae (by simp)] at f;have L:=za m;clear m;go_enter func31,ntmps31;go_wp2_with (first|(go_at_call 65;refine (g.o _).mono ?_;rintro e k ⟨rfl,rfl⟩)|(go_at_call 67;refine (PH c _).mono ?_;rintro e k ⟨rfl,rfl⟩;rw[B.o])|(go_at_call 69;refine (mf c _).mono ?_;rintro e k ⟨rfl,rfl⟩;rw[L.o]));refine (H.o _).mono ?_;rintro e X ⟨rfl,a⟩;rw[I.o];have b:=(a.block w.heap.size (Nat.lt_of_lt_of_eq (cf _) (by simp))).trans (zc w _);obtain⟨d0,d1,d2,d3,R,U⟩:=zU b;have j:=za b;have i:=za a;clear a b;simp only[Tk.dX];go_wp2_with fail;refine ab (v:=(zZ s p).dX s) (by rw[f.o];exact PI rfl rfl (kB j.o _ _ _ _)) rfl ⟨rfl,?_⟩;exact (((((nK i.o).setCell (an _) _).setCell (an _) _).setCell (an _) _).setCell (an _) _)
theorem KO (S:Xs)(f:Nat)(a:St)(s:Xb)(w:Xw)(d:PL S w f a):xK 72 #[xP f,.string s] w λe g=>e=.returned (.bool (ck a.t==2&&(cs a.src a.t).toList==s.toList))/\w=g:=by
 obtain⟨h,i,j,k,l,m,n⟩:=d.cells;clear d;by_cases b:ck a.t=2
 . have c:((ck a.t:Int)==2)=true:=beq_iff_eq.2 (by omega);have H:aa ((ck a.t==2)=true):=by unfold aa;simp[b]
   clear b;go_enter func72,ntmps72;go_wp2;go_ret;exact⟨by rw[H.o];simp,rfl⟩
 have c:((ck a.t:Int)==2)=false:=bf.2 (by omega);have H:aa ((ck a.t==2)=false):=by unfold aa;simp[b]
 clear b;go_enter func72,ntmps72;go_wp2;go_ret;exact⟨by rw[H.o];rfl,rfl⟩
theorem py (S:Xs)(k:Nat)(a:Nat)(w:Xw):xK 30 #[.iface 316 (.pointer (some (S k))),xI a] w λe b=>e=.returned (.agg #[.iface 316 (.pointer (some (S k))),xI a])/\xB w b:=by go_enter func30,ntmps30;go_wp2;exact ab (v:=.agg #[.iface 316 (.pointer (some (S k))),xI a]) (by simp[results,results30,go_sem]) rfl ⟨rfl,(yS _ _).alloc (an _) _⟩
theorem li (S:Xs)(f:Nat)(a:St)(e:Nat)(j:e≠0)(w:Xw)(d:PL S w f a):xK 74 #[xP f,.iface 316 (.pointer (some (S e)))] w λk i=>k=.returned (.tuple #[])/\PL S i f (a.fail e a.t.a)/\Fr (·=f) w i:=by
 have y:=d.frozen;have n:=d.lt;obtain⟨q,r,s,u,v,x,h⟩:=d.cells;by_cases c:a.er=0
 . have g:aa (a.fail e a.t.a={ a with er:=e,at':=a.t.a,t:=⟨1,a.t.a,a.t.t,⟨#[]⟩,0⟩ }):=by unfold aa St.fail;rw[ag c]
   rw[show cJ S a.er a.at'=.nilIface by simp[cJ,c]] at h;clear c;go_enter func74,ntmps74;go_wp2_with (go_at_call 30;refine (py S _ _ _).mono ?_;rintro p z ⟨rfl,b⟩;obtain⟨l,m⟩:=mD b;have o:=b.size);go_end0;refine⟨rfl,?_,?_⟩
   . have P:=((d.below b).qj e a.t.a).hd ⟨1,a.t.a,a.t.t,⟨#[]⟩,0⟩ (yy _ _ _);rw[show cJ S e a.t.a=.iface 53 (.agg #[aW S e,xI a.t.a]) by simp[cJ,j]] at P;rw[g.o];exact P
   exact (((((((Fr.refl _ w).gA b).aY _ _).aY _ _).aY _ _).aY _ _).aY _ _)
 have g:aa (a.fail e a.t.a={ a with t:=⟨1,a.t.a,a.t.t,⟨#[]⟩,0⟩ }):=by unfold aa St.fail;rw[ae c]
 rw[show cJ S a.er a.at'=.iface 53 (.agg #[aW S a.er,xI a.at']) by simp[cJ,c]] at h;clear c;go_enter func74,ntmps74;go_wp2;go_end0;refine⟨rfl,?_,?_⟩
 . rw[g.o];exact d.hd ⟨1,a.t.a,a.t.t,⟨#[]⟩,0⟩ (yy _ _ _)
 exact ((((Fr.refl _ w).aY _ _).aY _ _).aY _ _).aY _ _
theorem I3 (S:Xs)(s:Xb)(b:Int)(p:Nat)(a:b=p)(w:Xw)(f:s.size<=1200)(d:p<=s.size)(c:Gl S w):xK 31 #[.string s,xI b] w λe g=>e=.returned ((zZ s p).dX s)/\xB w g:=by subst a;exact xJ S s p w f d c
theorem jV (S:Xs)(f:Nat)(a:St)(w:Xw)(h:a.Ok)(q:2<=a.t.k)(g:PL S w f a):xK 174 #[xP f] w λA y=>A=.returned (a.t.dX a.src)/\PL S y f { a with t:=zZ a.src a.t.t }/\Fr (·=f) w y:=by
 have Y:=g.frozen;have m:=g.lt;have d:¬w.heap.size=f:=by omega
 have s:¬f=w.heap.size:=by omega
 obtain⟨P,Q,R,U,V,W,X⟩:=g.cells;have B:=h.src;have D:=h.tt;have E:=h.ta;have x:(cs a.src a.t).size=a.t.t-a.t.a:=by rw[Lj g.tx,ag q,ByteArray.size_extract];omega
 have i:IntKind.i64.wrap ((a.t.a:Int)+((cs a.src a.t).size:Int))=(a.t.t:Nat):=by rw[x,IntKind.wrap_i64];omega
 have z:=za i;have H:(cs a.src a.t).size<=1200:=by omega
 have p:=za g;have o:=za h;clear g h q x i;generalize l:cs a.src a.t=C at *;go_enter func174,ntmps174;go_wp2_with fail;go_region_with (go_at_call 31;refine (I3 S _ _ a.t.t z.o _ o.o.src o.o.tt (((p.o.alloc _).alloc _).drew.gl)).mono ?_;rintro e n ⟨rfl,b⟩;replace b:=zw b;have c:aa (PL S n f a):=((p.o.alloc _).alloc _).below b;have j:aa (Fr (·=f) w n):=(((Fr.refl _ _).alloc _).alloc _).gA b;obtain⟨L,B,D,E,M,N,O⟩:=c.o.cells;have gf:=c.o.frozen;have r:=c.o.lt;have k:=za b;obtain⟨G,I⟩:=mD b;have K:=b.size;clear b;simp only[Tk.dX])
 all_goals go_wp2_with fail
 all_goals
  have J:xH n w.heap.size #[xI 0,.string ⟨#[]⟩,xI 0,xI 0] 102:=(k.o.block _ (by simp;omega)).trans ((mm _ _ _ (by simp)).trans (zc _ _));refine ab (v:=a.t.dX a.src) (by unfold Tk.dX;rw[l];exact PI rfl rfl (kB (zr d (zr d (zr d (zr d J)))) _ _ _ _)) rfl ⟨rfl,?_,?_⟩
  . generalize F:zZ a.src a.t.t=T;have u:=yh a.src a.t.t;rw[F] at u
    (repeat (with_reducible refine PL.aU ?_ m _ _));exact c.o.hd T u
  (repeat (first|with_reducible refine Fr.aO ?_ (an _) _ _|with_reducible refine Fr.aY ?_ _ _));exact j.o
end
section
variable {M part:Fn} {l:Xu} {a d e k lv p:Nat} {st:St} {t:Tk}
def zv (d:Nat)(M:Fn):Prop:=∀(st:St) (p:Nat),Inv p st->18<=st.op+d->cU M st p
theorem Inv.gf (h:Inv p st)(f:k≠1)(c:st.is k l=true):st.er=0:=by
 by_cases b:st.er=0
 . exact b
 have:=h.bad b;simp[St.is,this] at c;omega
theorem Inv.bP (b:st.is k l=true):st.t.k=k:=by simp[St.is] at b;exact b.1
theorem St.bN:st.enter.op=st.op+1:=by
 unfold St.enter;split
 . unfold St.fail;split <;> rfl
 unfold St.ad;split <;> rfl
theorem St.jH (st:St)(e a:Nat):(st.fail e a).op=st.op:=by unfold St.fail;split <;> rfl
theorem St.sQ (st:St)(e a:Nat):(st.fail e a).src=st.src:=by unfold St.fail;split <;> rfl
theorem St.oq (st:St)(e a:Nat):(st.fail e a).t.a=st.t.a:=by unfold St.fail;split <;> rfl
theorem St.cy (st:St)(b:e≠0):(st.fail e a).er≠0:=by unfold St.fail;split <;> simp[*]
theorem St.bQ (st:St):st.ad.op=st.op:=by unfold St.ad;split <;> rfl
theorem St.ja (st:St):st.ad.er=st.er:=by unfold St.ad;split <;> rfl
theorem St.tE (h:st.er≠0):st.ad=st:=by unfold St.ad;rw[ae h]
theorem St.dZ (h:st.er=0):st.ad={ st with t:=zZ st.src st.t.t }:=by unfold St.ad;rw[ag h]
structure ai (p:Nat) (st st':St):Prop where
 af:Inv p st'
 src:st'.src=st.src
 ta:st.t.a<=st'.t.a
 L:∃E,st'.L=st.L++E
 er:st.er≠0->st'.er≠0
theorem ai.refl (h:Inv p st):ai p st st:=⟨h,rfl,an _,⟨[],by simp⟩,λh=>h⟩
theorem ai.trans {q:Nat}{a b c:St}(h:ai p a b)(k:ai q b c):ai q a c:=by obtain⟨E,i⟩:=h.L;obtain⟨g,f⟩:=k.L;exact⟨k.af,k.src.trans h.src,aJ h.ta k.ta,⟨E++g,by rw[f,i,bw]⟩,λe=>k.er (h.er e)⟩
theorem ai.gj (h:Inv p st)(c:st.er=0)(i:2<=st.t.k):ai (p+1) st st.ad:=by
 have g:=zV st.src st.t.t h.ok.tt;have f:=h.jN;have j:=h.tok i;rw[ag c] at f;have b:=h.ok.ad;rw[St.dZ c] at b ⊢;refine⟨⟨b,?_,h.N7,h.kq,λh=>absurd c h,g.2.2.2.2.2⟩,rfl,?_,⟨[],by simp⟩,λh=>h⟩
 . simp only[c,ag];omega
 simp only;omega
theorem ai.ad (h:Inv p st):ai p st st.ad:=by
 by_cases b:st.er=0
 . have g:=zV st.src st.t.t h.ok.tt;have f:=h.jN;have i:=h.ok.ta;rw[ag b] at f;have c:=h.ok.ad;rw[St.dZ b] at c ⊢;refine⟨⟨c,?_,h.N7,h.kq,λh=>absurd b h,g.2.2.2.2.2⟩,rfl,?_,⟨[],by simp⟩,λh=>h⟩
   . simp only[b,ag];omega
   simp only;omega
 rw[St.tE b];exact ai.refl h
theorem ai.fail (h:Inv p st)(c:e≠0)(i:e<=11)(g:a<=1200):ai p st (st.fail e a):=by
 have f:=h.jN;refine⟨⟨h.ok.fail i g,?_,by rw[St.jH];exact h.N7,λb=>absurd b (St.cy st c),?_,?_⟩,St.sQ _ _ _,by rw[St.oq];exact an _,⟨[],by rw[St.N4];simp⟩,λ_=>St.cy st c⟩
 . rw[St.N4,St.oq,ae (St.cy st c)];split at f <;> omega
 . intro _;unfold St.fail;split <;> rfl
 intro b;exfalso;unfold St.fail at b;split at b <;> simp at b
theorem ai.ac (h:Inv p st)(k:Nat)(l:Xu):ai p st (st.ac k l):=by
 unfold St.ac;split
 . exact ai.ad h
 exact ai.fail h (by omega) (by omega) h.ok.bR
theorem ai.name (h:Inv p st):ai p st st.name:=by
 unfold St.name;split
 . exact ai.ad h
 exact ai.fail h (by omega) (by omega) h.ok.bR
theorem St.a8 (st:St)(k:Nat)(l:Xu):(st.ac k l).op=st.op:=by unfold St.ac;split;exact st.bQ;exact st.jH _ _
theorem St.dB (st:St):st.name.op=st.op:=by unfold St.name;split;exact st.bQ;exact st.jH _ _
theorem ai.enter (h:Inv p st)(c:st.er=0)(j:2<=st.t.k):ai (p+1) st st.enter:=by
 have g:=h.jN;have m:=h.kq c;have n:=h.tok j;have o:=h.N7;rw[ag c] at g;have b:=h.ok.enter (by omega);have i:=zV st.src st.t.t h.ok.tt;unfold St.enter at b ⊢;split at b
 . rename_i f
   rw[ag f];refine⟨⟨b,?_,?_,λh=>absurd h (St.cy _ (by omega)),λ_=>?_,λh=>?_⟩,St.sQ _ _ _,by rw[St.oq];exact an _,⟨[],by rw[St.N4];simp⟩,λ_=>St.cy _ (by omega)⟩
   . rw[St.N4,St.oq,ae (St.cy _ (by omega))];simp only;omega
   . rw[St.jH];simp only;omega
   . unfold St.fail;split <;> rfl
   exfalso;unfold St.fail at h;split at h <;> simp at h
 rename_i f
 rw[ae f];rw[St.dZ (show ({ st with op:=st.op+1 }:St).er=0 from c)] at b ⊢;refine⟨⟨b,?_,?_,λ_=>?_,λh=>absurd c h,i.2.2.2.2.2⟩,rfl,?_,⟨[],by simp⟩,λh=>h⟩
 . simp only[c,ag];omega
 . simp only;omega
 . simp only;omega
 simp only;omega
theorem ai.aI (h:Inv p st):ai p st st.aI:=by
 refine⟨⟨h.ok.aI,h.jN,?_,?_,h.bad,h.tok⟩,rfl,an _,⟨[],by simp[St.aI]⟩,λh=>h⟩
 . have:=h.N7;unfold St.aI;simp only;omega
 intro b;have:=h.kq b;unfold St.aI;simp only;omega
theorem ai.put (h:Inv (p+1) st)(e:Ex):ai p st (st.put e).1:=by refine⟨⟨h.ok.add e,?_,h.N7,h.kq,h.bad,h.tok⟩,rfl,an _,⟨[e],rfl⟩,λh=>h⟩;have:=h.jN;simp only[St.put,St.add,aP,bJ,cw];split at this <;> simp_all <;> omega
theorem cU.dj (h:cU M st p):ai p st (M st).1:=⟨h.af,h.src,h.ta,h.L,λe=>by rw[h.er e];exact e⟩
theorem cU.lP (b:st.er=0)(h:ai p st (M st).1)(f:(M st).1.op=st.op)(c:(M st).1.er=0->(M st).2<(M st).1.L.length):cU M st p :=
 ⟨h.af,f,h.src,h.ta,h.L,λe=>absurd b e,c⟩
theorem lw (st:St)(e:Ex):(st.put e).2<(st.put e).1.L.length:=by simp[St.put,St.add]
theorem nS {n:Nat}(h:et t n=true):2<=t.k:=by
 unfold et at h;split at h
 . cases h
 omega
theorem Ig (q:zv d part):∀(f p:Nat) (x:St×Nat),Inv p x.1->18<=x.1.op+d->(x.1.er=0->x.2<x.1.L.length) ->
 ai p x.1 (dx lv part f x).1/\(dx lv part f x).1.op=x.1.op/\((dx lv part f x).1.er=0->(dx lv part f x).2<(dx lv part f x).1.L.length)/\(x.1.er≠0->dx lv part f x=x):=by
 intro f;induction f with
 | zero=>intro p x g _ j;exact⟨ai.refl g,rfl,j,λ_=>rfl⟩
 | succ f r =>
   intro p x g o j
   show ai p x.1 (if _ then _ else x).1/\(if _ then _ else x).1.op=x.1.op/\((if _ then _ else x).1.er=0->(if _ then _ else x).2<(if _ then _ else x).1.L.length)/\(x.1.er≠0->(if _ then _ else x)=x);by_cases b:x.1.er=0/\et x.1.t lv=true
   . rw[ag b];have m:=ai.gj g b.1 (nS b.2);have h:=q x.1.ad (p+1) m.af (by rw[St.bQ];exact o);have n:=ai.put h.af ⟨x.1.t.s,x.1.t.a,0,[x.2,(part x.1.ad).2],sE,0⟩;have c:(((part x.1.ad).1.put ⟨x.1.t.s,x.1.t.a,0,[x.2,(part x.1.ad).2],sE,0⟩).1).op=x.1.op:=h.op.trans (St.bQ _);have i:=r p _ n.af (by rw[c];exact o) (λ_=>lw _ _);exact⟨((m.trans h.dj).trans n).trans i.1,i.2.1.trans c,i.2.2.1,λe=>absurd b.1 e⟩
   rw[ae b];exact⟨ai.refl g,rfl,j,λ_=>rfl⟩
theorem ib (g:zv d part):zv d (eo lv part):=by
 intro st p i h;have b:=g st p i h;have c:=Ig (lv:=lv) g 1300 p (part st) b.af (by rw[b.op];exact h) b.num;refine⟨c.1.af,c.2.1.trans b.op,c.1.src.trans b.src,aJ b.ta c.1.ta,(b.dj.trans c.1).L,λe=>?_,c.2.2.1⟩;have f:=b.er e
 show dx lv part 1300 (part st)=(st,_);rw[c.2.2.2 (by rw[f];exact e)];exact Prod.ext (by rw[f]) (by show _=(dx lv part 1300 (part st)).2;rw[c.2.2.2 (by rw[f];exact e)])
theorem yD (h:eh t=true):2<=t.k:=by simp[eh] at h;omega
theorem rS {sum:Fn}(i:zv d sum):zv d (ei sum):=by
 intro st p n j;have b:=i st p n j;by_cases c:(sum st).1.er=0/\eh (sum st).1.t=true
 . have e:ei sum st=(sum (sum st).1.ad).1.put ⟨(sum st).1.t.s,(sum st).1.t.a,0,[(sum st).2,(sum (sum st).1.ad).2],sE,0⟩:=by unfold ei;simp only;rw[ag c]
   have h:=ai.gj b.af c.1 (yD c.2);have g:=i _ (p+1) h.af (by rw[St.bQ,b.op];exact j);have m:=ai.put g.af ⟨(sum st).1.t.s,(sum st).1.t.a,0,[(sum st).2,(sum (sum st).1.ad).2],sE,0⟩;have f:st.er=0:=by
    by_cases f:st.er=0
    . exact f
    exact absurd c.1 (b.dj.er f)
   refine cU.lP f ?_ ?_ ?_
   . rw[e];exact ((b.dj.trans h).trans g.dj).trans m
   . rw[e];exact (g.op.trans (St.bQ _)).trans b.op
   rw[e];exact λ_=>lw _ _
 have e:ei sum st=sum st:=by unfold ei;simp only;rw[ae c]
 exact⟨by rw[e];exact b.af,by rw[e];exact b.op,by rw[e];exact b.src,by rw[e];exact b.ta,by rw[e];exact b.L,by rw[e];exact b.er,by rw[e];exact b.num⟩
end
section
variable {M b a:Fn} {d p:Nat} {st:St}
theorem cU.same {N:Fn}(h:cU N st p)(e:M st=N st):cU M st p :=
 ⟨by rw[e];exact h.af,by rw[e];exact h.op,by rw[e];exact h.src,by rw[e];exact h.ta,by rw[e];exact h.L,by rw[e];exact h.er,by rw[e];exact h.num⟩
theorem cU.k5 {f:St}{e:Ex}(g:st.er=0)(c:M st=f.put e)(h:ai (p+1) st f)(i:f.op=st.op):cU M st p:=by
 refine cU.lP g ?_ ?_ ?_
 . rw[c];exact h.trans (ai.put h.af e)
 . rw[c];exact i
 rw[c];exact λ_=>lw _ _
theorem rH (g:Xb)(n:Nat)(e:Inv p st)(c:st.er=0)(f:2<=st.t.k):cU (fK g n) st p :=
 cU.k5 c rfl (ai.gj e c f) (St.bQ _)
theorem xZ (e:Inv p st)(c:st.er=0)(f:2<=st.t.k):cU kc st p :=
 cU.k5 c rfl (ai.gj e c f) (St.bQ _)
theorem St.iw (st:St):st.aI.op=st.op-1:=rfl
theorem r4 {j e:Fn}(m:zv d j)(l:zv (d+1) e):zv (d+1) (dG j e):=by
 intro st p i o;by_cases c:st.er=0/\(st.is 4 [45]||st.is 5 [110,111,116])=true
 . have n:2<=st.t.k:=by
    rcases Bool.or_eq_true_iff.1 c.2 with h|h
    . have:=Inv.bP h;omega
    have:=Inv.bP h;omega
   have g:=ai.enter i c.1 n;have f:=m st.enter (p+1) g.af (by rw[St.bN];omega);have k:=ai.aI f.af;refine cU.k5 c.1 (by unfold dG;rw[ag c]) ((g.trans f.dj).trans k) ?_;rw[St.iw,f.op,St.bN];rfl
 exact (l st p i o).same (by unfold dG;rw[ae c])
theorem W6 (h:eu st=true):2<=st.t.k:=by
 rcases Bool.or_eq_true_iff.1 h with h|h
 . have:=Inv.bP h;omega
 have:=Inv.bP h;omega
theorem Hc:∀(f p:Nat) (x:St×Nat),Inv p x.1->(x.1.er=0->x.2<x.1.L.length) ->
 ai p x.1 (M0 f x).1/\(M0 f x).1.op=x.1.op/\((M0 f x).1.er=0->(M0 f x).2<(M0 f x).1.L.length)/\(x.1.er≠0->M0 f x=x):=by
 intro f;induction f with
 | zero=>intro p x g i;exact⟨ai.refl g,rfl,i,λ_=>rfl⟩
 | succ f n =>
   intro p x g i
   show ai p x.1 (if _ then _ else x).1/\(if _ then _ else x).1.op=x.1.op/\((if _ then _ else x).1.er=0->(if _ then _ else x).2<(if _ then _ else x).1.L.length)/\(x.1.er≠0->(if _ then _ else x)=x);by_cases c:x.1.er=0/\eu x.1=true
   . rw[ag c];have k:=ai.gj g c.1 (W6 c.2);have l:=ai.name k.af;have m:=ai.put l.af ⟨x.1.t.s,x.1.t.a,x.1.ad.t.a,[x.2],x.1.ad.t.s,0⟩;have j:((x.1.ad.name.put ⟨x.1.t.s,x.1.t.a,x.1.ad.t.a,[x.2],x.1.ad.t.s,0⟩).1).op=x.1.op:=(St.dB _).trans (St.bQ _);have h:=n p _ m.af (λ_=>lw _ _);exact⟨((k.trans l).trans m).trans h.1,h.2.1.trans j,h.2.2.1,λe=>absurd c.1 e⟩
   rw[ae c];exact⟨ai.refl g,rfl,i,λ_=>rfl⟩
theorem rG (i:zv d b):zv d (gR b):=by
 intro st p h j;have f:=i st p h j;have c:=Hc 1300 p (b st) f.af f.num;refine⟨c.1.af,c.2.1.trans f.op,c.1.src.trans f.src,aJ f.ta c.1.ta,(f.dj.trans c.1).L,λe=>?_,c.2.2.1⟩;have g:=f.er e
 show M0 1300 (b st)=(st,_);rw[c.2.2.2 (by rw[g];exact e)];exact Prod.ext (by rw[g]) (by show _=(M0 1300 (b st)).2;rw[c.2.2.2 (by rw[g];exact e)])
theorem IA (l:zv d a):∀(f p:Nat) (x:St×List Nat),Inv p x.1->18<=x.1.op+d->x.2.length<=x.1.t.a ->
 ai p x.1 (cY a f x).1/\(cY a f x).1.op=x.1.op/\(cY a f x).2.length<=(cY a f x).1.t.a:=by
 intro f;induction f with
 | zero=>intro p x c _ i;exact⟨ai.refl c,rfl,i⟩
 | succ f n =>
   intro p x c k i
   show ai p x.1 (if _ then _ else x).1/\(if _ then _ else x).1.op=x.1.op/\(if _ then _ else x).2.length<=(if _ then _ else x).1.t.a;by_cases g:x.1.er=0/\x.1.is 4 [44]=true
   . rw[ag g];have r:=Inv.bP g.2;have o:=ai.gj c g.1 (by omega);have m:x.1.t.a+1<=x.1.ad.t.a:=(by have:=c.tok (by omega);rw[St.dZ g.1];have q:=zV x.1.src x.1.t.t c.ok.tt;simp only;omega);have j:=ai.ad c;have e:=l x.1.ad p j.af (by rw[St.bQ];exact k);have h:=n p ((a x.1.ad).1,x.2++[(a x.1.ad).2]) e.af (by rw[e.op,St.bQ];exact k) (by have:=e.ta;simp only[aP,bJ,cw];omega);exact⟨(j.trans e.dj).trans h.1,h.2.1.trans (e.op.trans (St.bQ _)),h.2.2⟩
   rw[ae g];exact⟨ai.refl c,rfl,i⟩
theorem xQ (f:zv d a)(h:Inv p st)(g:18<=st.op+d)(i:1<=st.t.a):ai p st (cL a st).1/\(cL a st).1.op=st.op/\(cL a st).2.length<=(cL a st).1.t.a:=by have c:=f st p h g;have e:=IA f 1300 p ((a st).1,[(a st).2]) c.af (by rw[c.op];exact g) (by have:=c.ta;simp only[bJ,cw];omega);exact⟨c.dj.trans e.1,e.2.1.trans c.op,e.2.2⟩
theorem xY (m:zv d a)(t:Tk)(g:Inv p st)(j:st.er=0)(q:18<=st.op+(d+1))(n:1<=st.t.a):cU (Fs a t) st p:=by
 by_cases i:st.is 4 [40]=true
 . have o:=Inv.bP i;have c:=ai.enter g j (by omega);have f:=xQ m c.af (by rw[St.bN];omega) (aJ n c.ta);have k:=ai.ac f.1.af 4 [41];have l:=ai.aI k.af;refine cU.k5 j (by unfold Fs;rw[ag i]) (((c.trans f.1).trans k).trans l) ?_;rw[St.iw,St.a8,f.2.1,St.bN];rfl
 have e:Fs a t st=(st.fail 2 st.t.a,0):=by unfold Fs;rw[ae i]
 refine cU.lP j ?_ ?_ ?_
 . rw[e];exact ai.fail g (by omega) (by omega) g.ok.bR
 . rw[e];exact St.jH _ _ _
 rw[e];exact λh=>absurd h (St.cy st (by omega))
theorem Hw (g:zv d a)(q:Inv p st)(k:st.er=0)(r:2<=st.t.k)(s:18<=st.op+(d+1)):cU (fp a) st p:=by
 have h:=ai.enter q k r;have l:st.enter.op=st.op+1:=St.bN;have c:=g st.enter (p+1) h.af (by rw[l];omega);have i:=ai.ac c.af 5 [116,104,101,110];have m:((a st.enter).1.ac 5 [116,104,101,110]).op=st.op+1:=by rw[St.a8,c.op,l]
 have e:=g _ (p+1) i.af (by rw[m];omega);have j:=ai.ac e.af 5 [101,108,115,101];have n:((a ((a st.enter).1.ac 5 [116,104,101,110])).1.ac 5 [101,108,115,101]).op=st.op+1:=by rw[St.a8,e.op,m]
 have f:=g _ (p+1) j.af (by rw[n];omega);have o:=ai.aI f.af;refine cU.k5 k rfl ((((((h.trans c.dj).trans i).trans e.dj).trans j).trans f.dj).trans o) ?_;rw[St.iw,f.op,n];rfl
theorem pf (f:zv d b):zv d (bF b):=by
 intro st p c g;by_cases e:st.er≠0∨st.t.k≠2
 . exact (f st p c g).same (by unfold bF;rw[ag e])
 exact (xZ c (by omega) (by omega)).same (by unfold bF;rw[ae e])
theorem Is (i:zv d b)(l:Inv p st)(j:st.er=0)(m:2<=st.t.k)(n:18<=st.op+(d+1)):cU (fs b) st p:=by have g:=ai.enter l j m;have h:=ai.name g.af;have f:st.enter.name.op=st.op+1:=(St.dB _).trans St.bN;have c:=pf i st.enter.name (p+1) h.af (by rw[f];omega);have e:=pf i _ (p+1) c.af (by rw[c.op,f];omega);have k:=ai.aI e.af;refine cU.k5 j rfl ((((g.trans h).trans c.dj).trans e.dj).trans k) ?_;rw[St.iw,e.op,c.op,f];rfl
theorem IB (n:zv d a)(m:Inv p st)(k:st.er=0)(o:2<=st.t.k)(r:18<=st.op+(d+1)):cU (iM a) st p:=by
 have j:=ai.enter m k o;have e:=n st.enter (p+1) j.af (by rw[St.bN];omega);have f:=ai.ac e.af 4 [41];have l:=ai.aI f.af;have c:=((j.trans e.dj).trans f).trans l;refine cU.lP k ⟨⟨c.af.ok,?_,c.af.N7,c.af.kq,c.af.bad,c.af.tok⟩,c.src,c.ta,c.L,c.er⟩ ?_ ?_
 . exact aJ (Nat.add_le_add_left (Nat.le_succ p) _) c.af.jN
 . show ((a st.enter).1.ac 4 [41]).aI.op=_;rw[St.iw,St.a8,e.op,St.bN];rfl
 intro q;have g:((a st.enter).1.ac 4 [41]).er=0:=q;have i:(a st.enter).1.er=0:=by
  by_cases h:(a st.enter).1.er=0
  . exact h
  exact absurd g (f.er h)
 have:=e.num i
 show (a st.enter).2<((a st.enter).1.ac 4 [41]).aI.L.length
 show (a st.enter).2<((a st.enter).1.ac 4 [41]).L.length;rw[St.bi];exact this
theorem rT {q:Fn}(t:zv d a)(y:zv d q):zv (d+1) (aN a q):=by
 intro st p c B;by_cases f:st.er=0
 . have i:¬st.er≠0:=by omega
   have l:cU (λst=>(st.fail 2 st.t.a,0)) st p:=(by refine cU.lP f (ai.fail c (by omega) (by omega) c.ok.bR) (St.jH _ _ _) (λh=>absurd h (St.cy st (by omega))));by_cases g:st.t.k=3
   . exact (rH fJ st.t.n c f (by omega)).same (by unfold aN;rw[ae i,ag g])
   by_cases j:st.t.k=2
   . by_cases w:st.ad.is 4 [40]=true
     . have s:aN a q st=Fs a st.t st.ad:=(by unfold aN;rw[ae i,ae g,ag j,ag w]);have x:=ai.ad c;have v:1<=st.ad.t.a:=(by have:=c.tok (by omega);rw[St.dZ f];have A:=zV st.src st.t.t c.ok.tt;simp only;omega);have u:=xY t st.t x.af (by rw[St.ja];exact f) (by rw[St.bQ];omega) v;have z:=x.trans u.dj;refine cU.lP f ?_ ?_ ?_
       . rw[s];exact z
       . rw[s];exact u.op.trans (St.bQ _)
       rw[s];exact u.num
     exact (xZ c f (by omega)).same (by unfold aN;rw[ae i,ae g,ag j,ae w])
   by_cases k:st.is 4 [40]=true
   . exact (IB t c f (by have:=Inv.bP k;omega) (by omega)).same (by unfold aN;rw[ae i,ae g,ae j,ag k])
   by_cases m:st.is 5 [116,114,117,101]=true
   . exact (rH MV 1 c f (by have:=Inv.bP m;omega)).same (by unfold aN;rw[ae i,ae g,ae j,ae k,ag m])
   by_cases n:st.is 5 [102,97,108,115,101]=true
   . exact (rH MV 0 c f (by have:=Inv.bP n;omega)).same (by unfold aN;rw[ae i,ae g,ae j,ae k,ae m,ag n])
   by_cases o:st.is 5 [105,102]=true
   . exact (Hw t c f (by have:=Inv.bP o;omega) (by omega)).same (by unfold aN;rw[ae i,ae g,ae j,ae k,ae m,ae n,ag o])
   by_cases r:st.is 5 [109,101,114,103,101]=true
   . exact (Is y c f (by have:=Inv.bP r;omega) (by omega)).same (by unfold aN;rw[ae i,ae g,ae j,ae k,ae m,ae n,ae o,ag r])
   exact l.same (by unfold aN;rw[ae i,ae g,ae j,ae k,ae m,ae n,ae o,ae r])
 have e:aN a q st=(st,0):=by unfold aN;rw[ag f]
 exact⟨by rw[e];exact c,by rw[e],by rw[e],by rw[e];exact an _,⟨[],by rw[e];simp⟩,λ_=>by rw[e],λh=>by rw[e] at h;exact absurd h f⟩
theorem I0 {c:Fn}(m:zv d a)(k:zv (d+1) c):zv (d+1) (fe a c):=by
 intro st p l n;have e:=k st p l n;by_cases f:(c st).1.er=0/\(c st).1.is 5 [102,98,121]=true
 . have i:=ai.enter e.af f.1 (by have:=Inv.bP f.2;omega);have h:=m _ (p+1) i.af (by rw[St.bN,e.op];omega);have j:=ai.aI h.af;have g:st.er=0:=by
    by_cases g:st.er=0
    . exact g
    exact absurd f.1 (e.dj.er g)
   refine cU.k5 g (by unfold fe;simp only;rw[ag f]) (((e.dj.trans i).trans h.dj).trans j) ?_;rw[St.iw,h.op,St.bN,e.op];rfl
 exact e.same (by unfold fe;simp only;rw[ae f])
theorem pm:∀d,zv d (fx d).ex/\zv d (fx d).un/\zv d (fx d).at':=by
 intro d;induction d with
 | zero =>
   have h:∀M:Fn,zv 0 M:=λM st p g i=>by have:=g.N7;omega
   exact⟨h _,h _,h _⟩
 | succ d c => have e:=rT c.1 c.2.2;have f:=r4 c.2.1 (rG e);exact⟨I0 c.1 (ib (ib (rS (ib (ib f))))),f,e⟩
end
section
open Go.RowKit
variable {st:St}
theorem fH (S:Xs)(a:Nat)(st:St)(s:Xb)(l:Xu)(d:s.toList=l)(w:Xw)(c:st.t.k<=5)(b:PL S w a st):xK 72 #[xP a,.string s] w λe f=>e=.returned (.bool (st.ej l))/\w=f:=by subst d;have:=KO S a st s w b;rwa [KL c] at this
structure bU (st:St):Prop where
 bad:st.er≠0->st.t.k=1
 ok:st.Ok
theorem bU.er (h:bU st)(b:st.t.k≠1):st.er=0:=by
 by_cases a:st.er=0
 . exact a
 exact absurd (h.bad a) b
theorem bU.ad (h:bU st):bU st.ad:=by
 refine⟨λb=>?_,h.ok.ad⟩;unfold St.ad at b ⊢;split
 . rename_i a;rw[ag a] at b;exact absurd a b
 rename_i a;exact h.bad a
theorem bU.fail (h:bU st){e:Nat}(a:e<=11):bU (st.fail e st.t.a):=by refine⟨λ_=>?_,h.ok.fail a h.ok.bR⟩;unfold St.fail;split <;> rfl
theorem bU.ac (h:bU st)(k:Nat)(l:Xu):bU (st.ac k l):=by
 unfold St.ac;split
 . exact h.ad
 exact h.fail (by omega)
theorem bU.name (h:bU st):bU st.name:=by
 unfold St.name;split
 . exact h.ad
 exact h.fail (by omega)
theorem Inv.bd {p:Nat}(h:Inv p st):bU st:=⟨h.bad,h.ok⟩
theorem yP {l:Xu}(h:st.ej l=true):4<=st.t.k:=by unfold St.ej at h;simp only[Bool.and_eq_true,Bool.or_eq_true,beq_iff_eq] at h;omega
theorem kI (h:bU st)(a:st.t.k≠1):({ st with t:=zZ st.src st.t.t }:St)=st.ad:=by unfold St.ad;rw[ag (h.er a)]
def St.cP (st:St)(l:Xu):St:=if st.ej l=true then st.ad else st
theorem hY (S:Xs)(b:Nat)(st:St)(s:Xb)(l:Xu)(k:s.toList=l)(w:Xw)(f:bU st)(j:PL S w b st):xK 137 #[xP b,.string s] w λe d=>e=.returned (.bool (st.ej l))/\PL S d b (st.cP l)/\Fr (·=b) w d:=by
 have c:=za (fH S b st s l k w f.ok.tk j);clear k;cases a:st.ej l with
 | true => have g:st.cP l={ st with t:=zZ st.src st.t.t }:=(by unfold St.cP;rw[ag a,kI f (by have:=yP a;omega)]);have m:=za (yP a);rw[a] at c;clear a;go_enter func137,ntmps137;go_wp2_with (first|(go_at_call 72;refine c.o.mono ?_;rintro e d ⟨rfl,rfl⟩)|(go_at_call 174;refine (jV S b st _ f.ok (aJ (by decide) m.o) j).mono ?_;rintro e n ⟨rfl,i,h⟩));go_ret;exact⟨rfl,by rw[g];exact i,h⟩
 | false => have g:st.cP l=st:=(by unfold St.cP;rw[ae (by rw[a];simp)]);rw[a] at c;clear a;go_enter func137,ntmps137;go_wp2_with (go_at_call 72;refine c.o.mono ?_;rintro e d ⟨rfl,rfl⟩);go_ret;exact⟨rfl,by rw[g];exact j,Fr.refl _ _⟩
end
section
open Go.RowKit
variable {l:Xu} {a:St}
def St.iv (a:St)(l:Xu):St:=if a.ej l=true then a.ad else a.fail 2 a.t.a
theorem fo (b:Tx a.src a.t)(c:(j5.any λx=>l==x)=false):a.iv l=a.ac 4 l:=by unfold St.iv St.ac;rw[fm b c]
theorem nI (b:Tx a.src a.t)(c:(j5.any λx=>l==x)=true):a.iv l=a.ac 5 l:=by unfold St.iv St.ac;rw[MH b c]
theorem zP (S:Xs)(f:Nat)(a:St)(s:Xb)(l:Xu)(o:s.toList=l)(w:Xw)(m:bU a)(k:PL S w f a):xK 134 #[xP f,.string s] w λe q=>e=.returned (xI a.t.a)/\PL S q f (a.iv l)/\Fr (·=f) w q:=by
 have g:=za (hY S f a s l o w m k);obtain⟨t,u,v,x,y,z,A⟩:=k.cells;clear o k m;cases c:a.ej l with
 | true => have h:a.iv l=a.cP l:=(by unfold St.iv St.cP;rw[ag c,ag c]);rw[c] at g;clear c;go_enter func134,ntmps134;go_wp2_with (go_at_call 137;refine g.o.mono ?_;rintro e r ⟨rfl,b,d⟩);go_ret;exact⟨rfl,by rw[h];exact b,d⟩
 | false => have h:a.iv l=a.fail 2 a.t.a:=(by unfold St.iv;rw[ae (by rw[c];simp)]);have n:a.cP l=a:=(by unfold St.cP;rw[ae (by rw[c];simp)]);rw[c,n] at g;clear c n;go_enter func134,ntmps134;go_wp2_with (first|(go_at_call 74;refine (li S f a 2 (by decide) _ b).mono ?_;rintro e B ⟨rfl,j,i⟩)|(go_at_call 137;refine g.o.mono ?_;rintro e r ⟨rfl,b,d⟩;have p:xC r 8 0 (.iface 316 (.pointer (some (S 2)))):=b.gl.e6));go_ret;exact⟨rfl,by rw[h];exact j,d.trans i⟩
theorem xi {fn:Func}{p:Tmp}(h:fn.results=#[.cell p 78]){c:Xa}{b:Nat}{w:Xw}(j:c[p]?.getD undef=xP b){d e:Xv}(i:xH w b #[d,e] 78):(results fn c).run prog w=.ok (.agg #[d,e]) w:=by obtain⟨f,g,_⟩:=zp i;simp[results,h,j,go_sem,f,g]
def gr (a:St):Value:=if a.t.k=2 then .agg #[.string a.t.s,xI a.t.a] else .agg #[.string ⟨#[]⟩,xI 0]
theorem gG (S:Xs)(h:Nat)(a:St)(w:Xw)(p:bU a)(i:PL S w h a):xK 135 #[xP h] w λe r=>e=.returned (gr a)/\PL S r h a.name/\Fr (·=h) w r:=by
 obtain⟨z,y,A,B,C,D,E⟩:=i.cells;have c:=i.lt;have k:¬w.heap.size=h:=by omega
 by_cases f:a.t.k=2
 . have g:ck a.t=3:=by simp[ck,f]
   have m:a.name={ a with t:=zZ a.src a.t.t }:=(by unfold St.name;rw[ag f,kI p (by omega)]);have n:aa (gr a=.agg #[.string a.t.s,xI a.t.a]):=(by unfold aa gr;rw[ag f]);have s:aa (cs a.src a.t=a.t.s):=(by unfold aa cs;simp[f]);rw[g] at y;clear g;go_enter func135,ntmps135;go_wp2_with (go_at_call 174;refine (jV S h a _ p.ok (Nat.le_of_eq f.symm) (i.alloc _)).mono ?_;rintro e o ⟨rfl,d,b⟩;have j:xH o w.heap.size #[.string ⟨#[]⟩,xI 0] 78:=(b.block _ (Nat.lt_of_lt_of_eq (cf _) (by simp)) k).trans (zc _ _);obtain⟨d0,d1,u,x⟩:=zp j;simp only[Tk.dX]);refine ab (v:=gr a) (by rw[n.o,<- s.o];exact xi rfl rfl ((mm _ _ _ (ze (zh _ _ _ _ (zh _ _ _ _ j)))).trans (zh _ _ _ _ (zh _ _ _ _ j)))) rfl ⟨rfl,?_,?_⟩
   . rw[m];exact ((d.aU c _ _).aU c _ _).alloc _
   exact (((((Fr.refl _ w).alloc _).trans b).aO (an _) _ _).aO (an _) _ _).alloc _
 have g:((ck a.t:Int) != 3)=true:=by
  have:ck a.t≠3:=by unfold ck;(repeat' split) <;> first|decide|(exfalso;omega)
  simp;omega
 have m:a.name=a.fail 2 a.t.a:=by unfold St.name;rw[ae f]
 have n:aa (gr a=.agg #[.string ⟨#[]⟩,xI 0]):=by unfold aa gr;rw[ae f]
 have q:xC w 8 0 (.iface 316 (.pointer (some (S 2)))):=i.gl.e6;have F:8<w.heap.size:=dD (by decide) i.gl.size;go_enter func135,ntmps135;go_wp2_with (go_at_call 74;refine (li S h a 2 (by decide) _ (i.alloc _)).mono ?_;rintro e o ⟨rfl,d,b⟩;have j:xH o w.heap.size #[.string ⟨#[]⟩,xI 0] 78:=(b.block _ (Nat.lt_of_lt_of_eq (cf _) (by simp)) k).trans (zc _ _);obtain⟨d0,d1,u,x⟩:=zp j);refine ab (v:=gr a) (by rw[n.o];exact xi rfl rfl (zh _ _ _ _ (zh _ _ _ _ j))) rfl ⟨rfl,?_,?_⟩
 . rw[m];exact (d.aU c _ _).aU c _ _
 exact ((((Fr.refl _ w).alloc _).trans b).aO (an _) _ _).aO (an _) _ _
theorem kC (S:Xs)(c:Nat)(a:St)(k:Nat)(w:Xw)(b:PL S w c a):xK 195 #[xP c,xI k] w λe f=>e=.returned (xP w.heap.size)/\w.alloc (.cells #[xI k,xI a.t.a,.string ⟨#[]⟩,xI 0,xI 0,.slice none 0 0] 211 (0,0))=f:=by obtain⟨g,h,i,j,m,n,o⟩:=b.cells;have d:=b.lt;clear b;go_enter func195,ntmps195;go_wp2;go_ret;exact⟨rfl,rfl⟩
end
section
open Go.RowKit
theorem sj (S:Xs)(k:Nat)(s:Xb)(a:gJ[k]?=some s)(w:Xw)(b:Gl S w):xK 180 #[xI k] w λe c=>e=.returned (.string s)/\w=c:=by
 have d:=b.words k s a;have g:k<24:=by
  rcases Nat.lt_or_ge k 24 with h|h
  . exact h
  rw[List.getElem?_eq_none (by simpa [gJ] using h)] at a;cases a
 have f:(0:Int)<=(k:Int)/\(k:Int)<24:=by omega
 go_enter func180,ntmps180;go_wp2;go_ret;exact⟨rfl,rfl⟩
def wd (k:Nat):ByteArray:=(gJ[k]?).getD ⟨#[]⟩
def dC (a:St):List Nat->Option Nat
 | []=>none
 | k::b=>if a.ej (wd k).toList=true then some k else dC a b
def fR:Option Nat->Value
 | some k=>.tuple #[xI k,.bool true]
 | none=>.tuple #[xI 0,.bool false]
theorem kF (S:Xs)(A:Nat)(c:St)(z:Nat)(n:Nat)(a:Xn)(J:n=a.length)(K:a.length<=100)(w:Xw)(m:∀(i k:Nat),a[i]?=some k->xC w z i (xI k))(h:∀k∈a,k<24)(F:c.t.k<=5)(D:PL S w A c):xK 212 #[xP A,xS z n n] w λe o=>e=.returned (fR (dC c a))/\w=o:=by
 subst J;have B:=za D;have t:=za m;have r:=za h;have u:=za F;clear D m h F;go_enter func212,ntmps212;go_wp2;go_loop [10] (λi=>∃j:Nat,j<=a.length/\i=xI j/\aa (dC c (a.drop j)=dC c a)) (λi=>a.length-(intOf i).toNat)
 case atStart=>exact⟨0,aE _,rfl,rfl⟩
 case round =>
  obtain⟨j,M,rfl,q⟩:=hrel;by_cases x:j<a.length
  . obtain⟨k,b⟩:∃k,a[j]?=some k:=⟨a[j],av x⟩;have L:xC w z j (xI k):=t.o j k b;have l:=r.o k (aM b);obtain⟨s,y⟩:∃s,gJ[k]?=some s:=⟨gJ[k]'(by simpa [gJ] using l),by rw[av]⟩;have G:wd k=s:=by unfold wd;rw[y];rfl
    have E:a.drop j=k::a.drop (j+1):=(by rw[aB] at b;obtain⟨H,I⟩:=b;rw[<- I];exact dE H);have C:=za (sj S k s y w B.o.gl);have p:=za (fH S A c s _ rfl w u.out B.o);have d:(if c.ej s.toList=true then some k else dC c (a.drop (j+1)))=dC c a:=(by rw[<- q.o,E,<- G];rfl);clear q E G y b;cases f:c.ej s.toList with
    | true => rw[f,ag rfl] at d;rw[f] at p;have g:=za d;clear f d;go_wp2_with (first|(go_at_call 180;refine C.o.mono ?_;rintro e o ⟨rfl,rfl⟩)|(go_at_call 72;refine p.o.mono ?_;rintro e o ⟨rfl,rfl⟩));refine ab (v:=fR (some k)) (by simp[results,results212,go_sem,fR]) rfl ⟨by rw[<- g.o],rfl⟩
    | false =>
      rw[f,ae (by simp)] at d;rw[f] at p;have g:=za d;clear f d;go_wp2_with (first|(go_at_call 180;refine C.o.mono ?_;rintro e o ⟨rfl,rfl⟩)|(go_at_call 72;refine p.o.mono ?_;rintro e o ⟨rfl,rfl⟩));go_round
      case rel=>exact⟨j+1,by omega,by go_num,g⟩
      case measure=>simp[intOf];omega
  have d:dC c a=none:=by rw[<- q.o,List.drop_of_length_le (by omega)];rfl
  have g:=za d;clear q d;go_wp2;refine ab (v:=fR none) (by simp[results,results212,go_sem,fR]) rfl ⟨by rw[g.o],rfl⟩
end
section
variable {n:Nat} {t:Tk}
def rem (a:St):Nat:=if a.er=0 then 1201-a.t.a else 0
def iH (x:Xu)(n:Nat):Bool:=if x=[111,114]∨x=[120,111,114] then n==0 else if x=[97,110,100] then n==1 else if x=[43]∨x=[45] then n==2 else if x=[42]∨x=[47]∨x=[37] then n==3 else false
theorem mi (a:t.k≠4/\t.k≠5):et t n=false:=by unfold et;rw[ag a]
theorem nJ (a:t.k=4∨t.k=5):et t n=iH t.s.toList n:=by unfold et;rw[ae (by omega)];rfl
end
section
open Go.RowKit
variable {a:Act} {K:Act->World->Prop} {Q:Exit->Act->World->Prop} {p:Xm} {l n d:Nat} {o:Oper} {e:Xy} {v:Xv}
theorem zR {w:Xw}{base':Nat}(h:w.ownsRow l e d v n p)(j:base'<=l):w.ownsRow base' e d v n p:=by
 obtain⟨i,f⟩:=h;refine⟨i,?_⟩;rcases f with f|⟨g,b,c,m,k,r⟩
 . exact ao f
 exact ap ⟨g,b,c,m,aJ j k,r⟩
theorem zi {w w':Xw}(h:w.ownsRow l e d v n p)(t:∀k,l<=k->k<w.heap.size->v.ownBlock=some k->w'.heap[k]?=w.heap[k]?):w'.ownsRow l e d v n p:=by
 obtain⟨s,f⟩:=h;refine⟨s,?_⟩;rcases f with f|⟨g,b,c,q,m,i,r⟩
 . exact ao f
 refine ap ⟨g,b,c,q,m,?_,r⟩;have j:g<w.heap.size:=by
  rcases Nat.lt_or_ge g w.heap.size with h|h
  . exact h
  rw[Array.getElem?_eq_none h] at i;cases i
 rw[t g m j (by rw[q];rfl),i]
theorem zN {W:Xw}{b:Nat}{c:Xa}{f:Nat×Nat}{g:Xm}(h:W.heap[b]?=some (.cells c e f))(k:c.toList=g):∀(j:Nat) (u:Xv),g[j]?=some u->W.cell? (((xD b 0):Addr).add j)=some u:=by
 intro j u m;subst k;have i:((xD b 0):Addr).add j=⟨b,j,none⟩:=by cases j <;> simp[Addr.add]
 rw[i];simp[World.cell?,h];simpa using m
theorem zM {w:Xw}(h:w.ownsRow l e d v n p)(f:0<n):∃g b,v=xS g n b/\l<=g:=by
 rcases h.2 with ⟨_,h⟩|⟨g,b,_,h,c,_⟩
 . omega
 exact⟨g,b,h,c⟩
theorem zD {w:Xw}{e:Nat}(h:w.ownsRow l e d v n p)(o:Obj):(w.alloc o).ownsRow l e d v n p:=zi h (λk _ b _=>mm w o k b)
section
variable {P:Program} (w:Xw)
theorem G6 (l:Nat)(t L e:Xy)(i:TypeInfo)(z:Xv)(d bytes:Nat)(O:P.underlying t=some (.slice e))(M:P.info? e=some i)(T:i.zero=some z)
 (q:i.size=d) (G:i.bytes=bytes) (J:z.cells.size=d) (I:0<d)
 (v:Xv) (n:Nat) (p:Xm) (f:w.ownsRow l e d v n p)
 (a:Addr) (m c:Nat) (b:Xm) (N:b.length=m*d) (h:∀j u,b[j]?=some u->w.cell? (a.add j)=some u) (S:∀u∈b,u.oneCell'=true)
 (F:n+m<=maxLen) (r:(n+m)*bytes<=140737488355328) (s:l<=w.heap.size) :
 ∃E y,(Builtin.append_ #[t,t] L #[v,.slice (some a) m c]).run P w=.ok E y/\y.ownsRow l e d E (n+m) (p++b)/\w.grownBy y v.ownBlock /\
  ∀k,E.ownBlock=some k->v.ownBlock=some k∨w.heap.size<=k:=by
 rcases f.2 with ⟨rfl,rfl⟩|⟨g,A,U,rfl,V,hg,Y,W,X,R⟩
 . have Z:p=[]:=List.eq_nil_of_length_eq_zero (by simpa using f.1);subst Z;obtain⟨E,y,H,B,x,_⟩:=run_append_own (P:=P) w w.heap.size t L e i z d bytes O M T q G J I _ 0 [] (World.ownsRow_nil w _ e d) a m c b N h S F r (an _);exact⟨E,y,H,zR B s,x,λk C=>ap (B.lt k C).1⟩
 by_cases D:n+m<=A
 . obtain⟨y,H,B,x⟩:=run_append_fits (P:=P) w l t L e i d O M q g n A p f a m c b N h S D;exact⟨_,y,H,B,x,λk C=>ao C⟩
 obtain⟨E,y,H,B,x⟩:=run_append_arg_grows (P:=P) w t L e i z d bytes O M T q G J I (xD g 0) n A p f.1 (f.cells (g:=g) rfl) a m c b N h (by omega) F r;exact⟨E,y,H,zR B s,⟨x.os,x.tape,x.output,x.size,λk C _=>x.block k C (by simp)⟩,λk C=>ap (B.lt k C).1⟩
theorem rA (s x:Operand)(t:Xy)
 (O:o.op=.call { callee:=.builtin .append,args:=#[s,x],argTypes:=#[t,t] })
 (l:Nat) (e:Xy) (i:TypeInfo) (z:Xv) (d bytes:Nat) (T:P.underlying t=some (.slice e)) (M:P.info? e=some i) (V:i.zero=some z)
 (r:i.size=d) (E:i.bytes=bytes) (G:z.cells.size=d) (F:0<d)
 (v:Xv) (n:Nat) (p:Xm) (S:a.eval s=v) (y:w.ownsRow l e d v n p)
 (C:Addr) (m c:Nat) (b:Xm) (U:a.eval x=.slice (some C) m c) (N:b.length=m*d) (q:∀j u,b[j]?=some u->w.cell? (C.add j)=some u) (H:∀u∈b,u.oneCell'=true)
 (D:n+m<=maxLen) (f:(n+m)*bytes<=140737488355328) (g:l<=w.heap.size)
 (h:∀A B,B.ownsRow l e d A (n+m) (p++b)->w.grownBy B v.ownBlock->(∀k,A.ownBlock=some k->v.ownBlock=some k∨w.heap.size<=k)->K (a.put o.dst A) B):o.wp P a w K Q:=by
 obtain⟨A,B,R,I,J,L⟩:=G6 (P:=P) w l t o.type e i z d bytes T M V r E G F v n p y C m c b N q H D f g;unfold Oper.wp execOp;simp only[O,resolve,invoke,builtin,Sem.run_bind,Sem.run_pure,Result.andThen_ok,List.map_toArray,List.map_cons,List.map_nil,S,U,R];exact h A B I J L
theorem zJ {A:Array Oper}{E:Prop}
 (L:o.guard=none) (s x:Operand) (t:Xy) (O:o.op=.call { callee:=.builtin .append,args:=#[s,x],argTypes:=#[t,t] })
 (l:Nat) (e:Xy) (i:TypeInfo) (z:Xv) (d bytes:Nat) (S:P.underlying t=some (.slice e)) (M:P.info? e=some i) (V:i.zero=some z)
 (r:i.size=d) (D:i.bytes=bytes) (G:z.cells.size=d) (F:0<d)
 (v:Xv) (n:Nat) (p:Xm) (R:a.eval s=v) (y:w.ownsRow l e d v n p)
 (B:Addr) (m c:Nat) (b:Xm) (U:a.eval x=.slice (some B) m c) (N:b.length=m*d) (q:∀j u,b[j]?=some u->w.cell? (B.add j)=some u) (J:∀u∈b,u.oneCell'=true)
 (C:n+m<=maxLen) (f:(n+m)*bytes<=140737488355328) (g:l<=w.heap.size)
 (h:∀H I,I.ownsRow l e d H (n+m) (p++b)->w.grownBy I v.ownBlock->(∀k,H.ownBlock=some k->v.ownBlock=some k∨w.heap.size<=k)->K (a.put o.dst H) I) :
 if Region.wanted o (yielded A a.tmps)=true then Oper.wp P o a w K Q else E:=by
 have T:Region.wanted o (yielded A a.tmps)=true:=by simp[Region.wanted,L]
 rw[ag T];exact rA w s x t O l e i z d bytes S M V r D G F v n p R y B m c b U N q J C f g h
end
end
section
open Go.RowKit
variable {a:Act} {K:Act->World->Prop} {d:Array Oper} {Q:Exit->Act->World->Prop} {o:Oper} {P:Program} {E:Prop} {w b:Xw}
theorem o4 (w:Xw){q:List Oper}(H:o.guard=none)(s x:Operand)(t:Xy)
 (V:o.op=.call { callee:=.builtin .append,args:=#[s,x],argTypes:=#[t,t] })
 (l:Nat) (e:Xy) (i:TypeInfo) (z:Xv) (f bytes:Nat) (X:P.underlying t=some (.slice e)) (T:P.info? e=some i) (Z:i.zero=some z)
 (A:i.size=f) (G:i.bytes=bytes) (J:z.cells.size=f) (I:0<f)
 (v:Xv) (n:Nat) (L:Xm) (W:a.eval s=v) (B:w.ownsRow l e f v n L)
 (D:Addr) (m c:Nat) (g:Xm) (Y:a.eval x=.slice (some D) m c) (U:g.length=m*f) (y:∀j u,g[j]?=some u->w.cell? (D.add j)=some u) (M:∀u∈g,u.oneCell'=true)
 (F:n+m<=maxLen) (p:(n+m)*bytes<=140737488355328) (r:l<=w.heap.size)
 (h:∀C b,b.ownsRow l e f C (n+m) (L++g)->w.grownBy b v.ownBlock->(∀k,C.ownBlock=some k->v.ownBlock=some k∨w.heap.size<=k)->wpList P d Q q (a.put o.dst C) b):wpList P d Q (o::q) a w :=
 wpList_plain H λ_ S=>rA w s x t V l e i z f bytes X T Z A G J I v n L W B D m c g Y U y M F p r λC b N O R=>S _ _ (h C b N O R)
theorem Fr.gi {c:Xo}(h:w.grownBy b c):Fr (λk=>c=some k) w b:=⟨h.os,h.tape,h.output,h.size,λk f g=>h.block k f (λe=>g e.symm)⟩
theorem kE {B n:Nat}{e:Xy}{i:Xv}{m:Xm}(h:w.ownsRow B e 1 i n m):∃x j,i=.slice x n j:=by
 rcases h.2 with ⟨f,l⟩|⟨g,c,k,f,_⟩
 . exact⟨none,0,by rw[f,l]⟩
 exact⟨_,c,f⟩
theorem xh 
 (j:o.guard=none) (f:FuncId) (l:Array Operand) (g:Array TypeId) (k:o.op=.call { callee:=.value (.func f),args:=l,argTypes:=g })
 (i:∀(args:Xa) (w:Xw),(callFunc f args).run P w=.ok (.enter f args) w) (args:Xa) (p:#[]++l.map a.eval++#[]=args) {R:Ending->World->Prop} (h:Calls P f args w R)
 (n:∀e b,R e b->∃v,e=.returned v/\K (a.put o.dst v) b):if Region.wanted o (yielded d a.tmps)=true then Oper.wp P o a w K Q else E:=by
 have s:Region.wanted o (yielded d a.tmps)=true:=by simp[Region.wanted,j]
 rw[ag s];obtain⟨m,u,x,t,c,guard⟩:=o;simp only at k j;subst k j;unfold Oper.wp;rw[execOp_call_go,p,i,Oper.upon_enter];refine h.mono ?_;intro e b r;obtain⟨v,rfl,q⟩:=n e b r;exact q
theorem kD 
 (i:o.guard=none) (f:FuncId) (x:Operand) (t:Xy) (j:o.op=.call { callee:=.value (.func f),args:=#[x],argTypes:=#[t] })
 (c:∀(args:Xa) (w:Xw),(callFunc f args).run P w=.ok (.enter f args) w) (v:Xv) (k:a.eval x=v) {R:Ending->World->Prop} (h:Calls P f #[v] w R)
 (g:∀e b,R e b->∃v,e=.returned v/\K (a.put o.dst v) b):if Region.wanted o (yielded d a.tmps)=true then Oper.wp P o a w K Q else E :=
 xh i f #[x] #[t] j c #[v] (by simp[k]) h g
theorem rl 
 (j:o.guard=none) (f:FuncId) (x y:Operand) (t u:Xy) (k:o.op=.call { callee:=.value (.func f),args:=#[x,y],argTypes:=#[t,u] })
 (c:∀(args:Xa) (w:Xw),(callFunc f args).run P w=.ok (.enter f args) w) (v g:Xv) (l:a.eval x=v) (m:a.eval y=g) {R:Ending->World->Prop} (h:Calls P f #[v,g] w R)
 (i:∀e b,R e b->∃v,e=.returned v/\K (a.put o.dst v) b):if Region.wanted o (yielded d a.tmps)=true then Oper.wp P o a w K Q else E :=
 xh j f #[x,y] #[t,u] k c #[v,g] (by simp[l,m]) h i
def zH (f:FuncId):Prop:=∀(c:Xa) (w:Xw),(callFunc f c).run prog w=.ok (.enter f c) w
theorem Fr.cQ {T:Xj}(h:Fr T w.drew b):Fr T w b:=⟨h.os,h.tape,h.output,h.size,h.block⟩
end
section
open Go.RowKit
variable {L:List Ex} {B x:Nat} {v:Xv} {w j:Xw}
def aF (l:Xu)(n:Nat):Nat :=
 if l=[110,117,109,98,101,114] then 0 else if l=[98,111,111,108] then (if n=1 then 1 else 2) else if l=[118,97,114] then 3 else if l=[99,97,108,108] then 4
 else if l=[105,102] then 5 else if l=[109,101,114,103,101] then 6 else if l=[119,104,101,110] then 7 else if l=[119,104,101,110,111,116] then 8 else if l=[102,98,121] then 9
 else if l=[110,101,103] then 10 else if l=[110,111,116] then 11 else if l=[97,110,100] then 12 else if l=[111,114] then 13 else if l=[120,111,114] then 14
 else if l=[61] then 15 else if l=[60,62] then 16 else if l=[60] then 17 else if l=[60,61] then 18 else if l=[43] then 19 else if l=[45] then 20 else if l=[42] then 21 else if l=[47] then 22 else 23
def df (l:Xu)(n:Nat):Nat:=if l=[110,117,109,98,101,114] then n else 0
theorem jY (l:Xu):df l 0=0:=by unfold df;split <;> rfl
inductive TR (w:Xw) (B:Nat) (L:List Ex):Nat->Value->Prop
 | mk (x:Nat) (ex:Ex) (b:Nat) (args:Xv) (vs:Xm) (hx:L[x]?=some ex) (hB:B<=b)
    (hb:xH w b #[xI (aF ex.op.toList ex.n:Nat),xI ex.a,.string ex.s,xI ex.nm,xI (df ex.op.toList ex.n:Nat),args] 211)
    (ha:w.ownsRow B 157 1 args vs.length vs) (hl:vs.length=ex.ah.length)
    (hr:∀(i y:Nat) (v:Xv),ex.ah[i]?=some y->vs[i]?=some v->TR w B L y v):TR w B L x (xP b)
theorem TR.kept (h:TR w B L x v)(g:∀k,B<=k->k<w.heap.size->j.heap[k]?=w.heap[k]?):TR j B L x v:=by
 induction h with
 | mk x i b d p n e f l m _ o => exact TR.mk x i b d p n e ((g b e (ze f)).trans f) (zi l (λk a c _=>g k a c)) m o
theorem TR.fr (h:TR w B L x v){T:Xj}(d:Fr T w j)(c:∀k,B<=k->k<w.heap.size->¬T k):TR j B L x v :=
 h.kept (λk a b=>d.block k b (c k a b))
theorem TR.more (h:TR w B L x v)(E:List Ex):TR w B (L++E) x v:=by
 induction h with
 | mk x d b a l c e g f i _ k =>
   refine TR.mk x d b a l ?_ e g f i k;rw[e9]
   . exact c
   exact (aB.1 c).1
theorem TR.down (h:TR w B L x v){d:Nat}(c:d<=B):TR w d L x v:=by
 induction h with
 | mk x e b a n l f i g k _ m => exact TR.mk x e b a n l (aJ c f) i (zR g c) k m
def ef (S:Xs)(c B:Nat)(w:Xw)(b:St)(r:Nat)(e:Ending)(j:Xw):Prop :=
 ∃a:Xp,e=.returned (.pointer a)/\PL S j c b/\aa (b.er=0->TR j B b.L r (.pointer a))/\Fr (·=c) w j
def zX (d:Nat)(f:FuncId)(M:Fn):Prop:=∀(S:Xs) (b:Nat) (a:St) (p:Nat) (w:Xw),Inv p a->18<=a.op+d->PL S w b a ->
 xK f #[xP b] w (ef S b w.heap.size w (M a).1 (M a).2)
theorem PL.put {S:Xs}{a:Nat}{b:St}(h:PL S w a b)(e:Ex):PL S w a (b.put e).1:=⟨h.tx,h.heap,h.gl,h.pb⟩
theorem TR.two {a:Ex}{b g y z:Nat}{u:Xv}(h:B<=b)(l:B<=g)
 (k:xH w b #[xI (aF a.op.toList a.n:Nat),xI a.a,.string a.s,xI a.nm,xI (df a.op.toList a.n:Nat),xS g 2 2] 211)
 (e:xH w g #[u,v] 157) (f:a.ah=[y,z]) (m:TR w B L y u) (n:TR w B L z v):TR w B (L++[a]) L.length (xP b):=by
 refine TR.mk L.length a b _ [u,v] (by simp) h k ⟨by simp,ap ⟨g,2,#[u,v],rfl,l,e,by simp,by decide,by simp,by simp⟩⟩ (by simp[f]) ?_;intro i s t c d;rw[f] at c
 match i with
 | 0=>simp at c d;subst c d;exact m.more _
 | 1=>simp at c d;subst c d;exact n.more _
 | i+2=>simp at c
end
section
variable {p:Nat} {b:St}
structure Vr where
 nm:ByteArray
 a:Nat
 bl:Bool
 bn:Bool
 out:Bool
 on:Nat
 ck:ByteArray
 ca:Nat
 nt:Bool
 tm:Bool
def cD:List UInt8:=[98,111,111,108]
def jo:List UInt8:=[105,110,116]
def cF:List UInt8:=[111,110]
def aav:List UInt8:=[110,111,116]
def z9 (b:St):St:=if b.is 5 cD=true then b.ad else b.ac 5 jo
def aS (b:St):St:=if b.is 5 aav=true then b.ad else b
def zx (i o:Bool)(b:St)(a:List Vr):St×List Vr :=
 if 16<=a.length then (b.fail 2 b.t.a,a)
 else
  let d:=b.name.ac 4 [58]
  let c:=z9 d
  if (c.is 5 cF&&!i&&!o)=true then
   let e:=aS c.ad
   (e.name,a++[⟨b.t.s,b.t.a,d.is 5 cD,i,o,c.t.a,e.t.s,e.t.a,c.ad.is 5 aav,true⟩])
  else (c,a++[⟨b.t.s,b.t.a,d.is 5 cD,i,o,0,sE,0,false,false⟩])
theorem ai.type (h:Inv p b):ai p b (z9 b):=by
 unfold z9;split
 . exact ai.ad h
 exact ai.ac h _ _
theorem ai.hb (h:Inv p b):ai p b (aS b):=by
 unfold aS;split
 . exact ai.ad h
 exact ai.refl h
theorem JB (b:St):(z9 b).op=b.op:=by unfold z9;split;exact b.bQ;exact b.a8 _ _
theorem Kt (b:St):(aS b).op=b.op:=by unfold aS;split;exact b.bQ;rfl
theorem X3 (b:St):(z9 b).L=b.L:=by unfold z9;split;exact b.bu;exact b.bi _ _
theorem KQ (b:St):(aS b).L=b.L:=by unfold aS;split;exact b.bu;rfl
theorem jX {i o:Bool}{ak:List Vr}(e:Inv p b):ai p b (zx i o b ak).1/\(zx i o b ak).1.op=b.op/\(zx i o b ak).1.L=b.L:=by
 unfold zx;split
 . exact⟨ai.fail e (by omega) (by omega) e.ok.bR,St.jH _ _ _,St.N4 _ _ _⟩
 have a:=ai.name e;have c:=ai.ac a.af 4 [58];have d:=ai.type c.af;have j:(z9 (b.name.ac 4 [58])).op=b.op:=by rw[JB,St.a8,St.dB]
 have h:(z9 (b.name.ac 4 [58])).L=b.L:=by rw[X3,St.bi,St.c8]
 simp only;split
 . have f:=ai.ad d.af;have g:=ai.hb f.af;have k:=ai.name g.af;exact⟨((((a.trans c).trans d).trans f).trans g).trans k,by rw[St.dB,Kt,St.bQ,j],by rw[St.c8,KQ,St.bu,h]⟩
 exact⟨(a.trans c).trans d,j,h⟩
end
section
variable {ak:List Vr} {p:Nat} {a:St}
def MG (i:Bool):Nat->St×List Vr->St×List Vr
 | 0,x=>x
 | f+1,x=>if x.1.er=0/\x.1.is 4 [44]=true then MG i f (zx i (!i) x.1.ad x.2) else x
def bW (i:Bool)(a:St)(ak:List Vr):St×List Vr :=
 let y:=MG i 1300 (zx i (!i) (a.ac 4 [40]) ak)
 (y.1.ac 4 [41],y.2)
def MN (a:St)(ak:List Vr):St×List Vr :=
 let x:=zx false false a ak
 (x.1.ac 4 [59],x.2)
theorem HN (i:Bool):∀(f p:Nat) (x:St×List Vr),Inv p x.1->ai p x.1 (MG i f x).1/\(MG i f x).1.op=x.1.op/\(MG i f x).1.L=x.1.L:=by
 intro f;induction f with
 | zero=>intro p x c;exact⟨ai.refl c,rfl,rfl⟩
 | succ f h =>
   intro p x c
   show ai p x.1 (if _ then _ else x).1/\(if _ then _ else x).1.op=x.1.op/\(if _ then _ else x).1.L=x.1.L;by_cases g:x.1.er=0/\x.1.is 4 [44]=true
   . rw[ag g];have e:=ai.ad c;have b:=jX (i:=i) (o:=!i) (ak:=x.2) e.af;have d:=h p _ b.1.af;exact⟨(e.trans b.1).trans d.1,d.2.1.trans (b.2.1.trans (St.bQ _)),d.2.2.trans (b.2.2.trans (St.bu _))⟩
   rw[ae g];exact⟨ai.refl c,rfl,rfl⟩
theorem kH {i:Bool}(f:Inv p a):ai p a (bW i a ak).1/\(bW i a ak).1.op=a.op/\(bW i a ak).1.L=a.L:=by
 have d:=ai.ac f 4 [40];have b:=jX (i:=i) (o:=!i) (ak:=ak) d.af;have c:=HN i 1300 p _ b.1.af;have e:=ai.ac c.1.af 4 [41];refine⟨((d.trans b.1).trans c.1).trans e,?_,?_⟩
 . unfold bW;simp only;rw[St.a8,c.2.1,b.2.1,St.a8]
 unfold bW;simp only;rw[St.bi,c.2.2,b.2.2,St.bi]
theorem mn (d:Inv p a):ai p a (MN a ak).1/\(MN a ak).1.op=a.op/\(MN a ak).1.L=a.L:=by
 have b:=jX (i:=false) (o:=false) (ak:=ak) d;have c:=ai.ac b.1.af 4 [59];refine⟨b.1.trans c,?_,?_⟩
 . unfold MN;simp only;rw[St.a8,b.2.1]
 unfold MN;simp only;rw[St.bi,b.2.2]
end
section
open Go.RowKit
variable {l:Xu} {a b e k:Nat} {w:Xw}
theorem so:(⟨#[58]⟩:Xb).toList=[58]:=by decide +kernel
theorem pH:(⟨#[59]⟩:Xb).toList=[59]:=by decide +kernel
theorem r9:(⟨#[98,111,111,108]⟩:Xb).toList=cD:=by decide +kernel
theorem yJ:(⟨#[105,110,116]⟩:Xb).toList=jo:=by decide +kernel
theorem yL:(⟨#[110,111,116]⟩:Xb).toList=aav:=by decide +kernel
theorem Zn:(⟨#[111,110]⟩:Xb).toList=cF:=by decide +kernel
theorem ph (w:Xw):xK 140 #[xI 1] w λe c=>e=.returned (.string ⟨#[98,111,111,108]⟩)/\w=c:=by go_enter func140,ntmps140;go_wp2;go_ret;exact⟨rfl,rfl⟩
theorem rU (w:Xw):xK 140 #[xI 0] w λe c=>e=.returned (.string ⟨#[105,110,116]⟩)/\w=c:=by go_enter func140,ntmps140;go_wp2;go_ret;exact⟨rfl,rfl⟩
theorem jk (c:St):∃(f:Xb) (d:Nat),gr c=.agg #[.string f,xI d]/\(c.t.k=2->f=c.t.s/\d=c.t.a):=by
 by_cases h:c.t.k=2
 . exact⟨c.t.s,c.t.a,by unfold gr;rw[ag h],λ_=>⟨rfl,rfl⟩⟩
 exact⟨⟨#[]⟩,0,by unfold gr;rw[ae h];rfl,λg=>absurd g h⟩
theorem St.sO (s:St){d c:Nat}(f:e≠0):(s.fail e a).fail d c=s.fail e a:=by unfold St.fail;by_cases h:s.er=0 <;> simp[h,f]
theorem St.mR (s:St)(d:k≠1):(s.fail e a).is k l=false:=by
 unfold St.is;have:(s.fail e a).t.k=1:=by unfold St.fail;split <;> rfl
 rw[this];have c:((1:Nat)==k)=false:=by simp;omega
 rw[c];rfl
theorem St.p9 (s:St)(c:e≠0)(d:k≠1):(s.fail e a).ac k l=s.fail e a:=by unfold St.ac;rw[St.mR s d];exact St.sO s c
theorem St.sP (s:St)(c:e≠0):(s.fail e a).name=s.fail e a:=by
 unfold St.name;have:(s.fail e a).t.k=1:=by unfold St.fail;split <;> rfl
 rw[ae (by omega)];exact St.sO s c
def St.bG (c:St)(n:Nat):St:=if n=16 then c.fail 2 c.t.a else c
def pI (d:Xb)(c j i h:Nat)(g:Xb)(f:Nat):Value:=.agg #[.string d,xI c,xI j,xI i,xI h,.string g,xI f]
theorem rn {fn:Func}{p:Tmp}(h:fn.results=#[.cell p 95]){c:Xa}(y:c[p]?.getD undef=xP b){d f g i j m n:Xv}(x:xH w b #[d,f,g,i,j,m,n] 95):(results fn c).run prog w=.ok (.agg #[d,f,g,i,j,m,n]) w:=by obtain⟨o,q,r,s,t,u,v,_⟩:=eK x;simp[results,h,y,go_sem,o,q,r,s,t,u,v]
theorem rF {e:Xy}{B s r p o m j:Xv}(h:xH w b #[B,s,r,p,o,m,j] e)(c d f g i n q:Xv):(((((((w.setCell (xD b 0) c).setCell (xD b 1) d).setCell (xD b 2) f).setCell (xD b 3) g).setCell (xD b 4) i).setCell (xD b 5) n).setCell (xD b 6) q).heap[b]?=some (.cells #[c,d,f,g,i,n,q] e (0,0)):=by have t:xH (w.setCell (xD b 0) c) b #[c,s,r,p,o,m,j] e:=zh _ _ _ _ h;have u:((w.setCell (xD b 0) c).setCell (xD b 1) d).heap[b]?=some (.cells #[c,d,r,p,o,m,j] e (0,0)):=zh _ _ _ _ t;have v:(((w.setCell (xD b 0) c).setCell (xD b 1) d).setCell (xD b 2) f).heap[b]?=some (.cells #[c,d,f,p,o,m,j] e (0,0)):=zh _ _ _ _ u;have x:((((w.setCell (xD b 0) c).setCell (xD b 1) d).setCell (xD b 2) f).setCell (xD b 3) g).heap[b]?=some (.cells #[c,d,f,g,o,m,j] e (0,0)):=zh _ _ _ _ v;have y:(((((w.setCell (xD b 0) c).setCell (xD b 1) d).setCell (xD b 2) f).setCell (xD b 3) g).setCell (xD b 4) i).heap[b]?=some (.cells #[c,d,f,g,i,m,j] e (0,0)):=zh _ _ _ _ x;have z:((((((w.setCell (xD b 0) c).setCell (xD b 1) d).setCell (xD b 2) f).setCell (xD b 3) g).setCell (xD b 4) i).setCell (xD b 5) n).heap[b]?=some (.cells #[c,d,f,g,i,n,j] e (0,0)):=zh _ _ _ _ y;have A:(((((((w.setCell (xD b 0) c).setCell (xD b 1) d).setCell (xD b 2) f).setCell (xD b 3) g).setCell (xD b 4) i).setCell (xD b 5) n).setCell (xD b 6) q).heap[b]?=some (.cells #[c,d,f,g,i,n,q] e (0,0)):=zh _ _ _ _ z;exact A
theorem HR (S:Xs)(j:Nat)(g:St)(w:Xw)(nb:Nat)(x:Xp)(n c:Nat)(bs:bU g)(_hn:n<=100)(ca:nb<w.heap.size)(hc:xC w nb 2 (.slice x n c))(a2:PL S w j g) :
 xK 175 #[xP j,xP nb] w λe w'=>∃O N,e=.returned (pI O N (if ((g.bG n).name.ac 4 [58]).is 5 cD=true then 1 else 0) 0 0 ⟨#[]⟩ 0)/\((g.bG n).t.k=2->O=(g.bG n).t.s/\N=(g.bG n).t.a)/\PL S w' j (z9 ((g.bG n).name.ac 4 [58]))/\Fr (·=j) w w':=by
 have a1:=a2.lt;have bL:xC w 8 0 (.iface 316 (.pointer (some (S 2)))):=a2.gl.e6;have bY:8<w.heap.size:=dD (by decide) a2.gl.size;have a0:w.heap.size<(w.alloc (.cells #[.string ⟨#[]⟩,xI 0,xI 0,xI 0,xI 0,.string ⟨#[]⟩,xI 0] 95)).heap.size:=by simp
 have aV:=zc w (.cells #[.string ⟨#[]⟩,xI 0,xI 0,xI 0,xI 0,.string ⟨#[]⟩,xI 0] 95);by_cases Z:n=16
 . have bC:g.bG n=g.fail 2 g.t.a:=by unfold St.bG;rw[ag Z]
   rw[bC];have bB:((n:Int)==16)=true:=beq_iff_eq.2 (by omega);have bt:=za (bs.fail (e:=2) (by omega));obtain⟨m,y⟩:∃m,(g.fail 2 g.t.a).name.ac 4 [58]=m:=⟨_,rfl⟩;have bE:m=g.fail 2 g.t.a:=(by rw[<- y,St.sP _ (by decide)];exact St.p9 _ (by decide) (by decide));have M:m.is 5 cD=false:=(by rw[bE];exact St.mR _ (by decide));rw[y];have J:z9 m=m.ac 5 jo:=(by unfold z9;rw[ae (by rw[M];simp)]);rw[J,M];clear bE J bC Z;go_enter func175,ntmps175;go_wp2_with (go_at_call 74;refine (li S j g 2 (by decide) _ (a2.alloc _)).mono ?_;rintro e w9 ⟨rfl,bx,bv⟩;have bK:=bx.lt);have bA:=(bv.block w.heap.size a0 (by omega)).trans aV;obtain⟨O,N,H,T⟩:=jk (g.fail 2 g.t.a);have R:=za (gG S j (g.fail 2 g.t.a) w9 bt.o bx);rw[H] at R;refine R.o.mono ?_;rintro e p ⟨rfl,r,t⟩;have o:¬w.heap.size=j:=(by omega);have E:=(t.block w.heap.size (ze bA) o).trans bA;have Y:=ze E;have P:aa (Fr (·=j) w p):=Fr.trans (((Fr.refl _ w).alloc _).trans bv) t;have V:=r.lt;have A:=za bt.o.name;have B:=za (zP S j (g.fail 2 g.t.a).name ⟨#[58]⟩ _ so (p.alloc (.cells #[.string O,xI N,xI 0,xI 0,xI 0,.string ⟨#[]⟩,xI 0] 95)) A.o (r.alloc _));rw[fo r.tx (by decide),y] at B;have K:aa (bU m):=(by unfold aa;rw[<- y];exact A.o.ac 4 [58]);clear t H R;go_wp2_with fail;refine B.o.mono ?_;rintro e w2 ⟨rfl,d,i⟩;have f:¬p.heap.size=j:=(by omega);have F:=(i.block w.heap.size (by simp;omega) o).trans ((mm _ _ _ Y).trans E);have G:=(i.block p.heap.size (by simp) f).trans (zc p _);have Q:aa (Fr (·=j) w w2):=(P.o.alloc _).trans i;have ar:=d.lt;have s:=za (hY S j m ⟨#[98,111,111,108]⟩ _ r9 w2 K.o d);rw[MH d.tx (by decide),M] at s;have I:m.cP cD=m:=(by unfold St.cP;rw[MH d.tx (by decide),M];rfl);rw[I] at s;clear i I;have C:=za (λp h=>zP S j m ⟨#[105,110,116]⟩ _ yJ p K.o h);have W:=d.tx;rw[nI W (by decide)] at C;clear W;go_wp2_with (first|(go_at_call 140;first|(with_reducible refine (ph _).mono ?_;rintro e w' ⟨rfl,rfl⟩)|(with_reducible refine (rU _).mono ?_;rintro e w' ⟨rfl,rfl⟩))|(go_at_call 137;refine s.o.mono ?_;rintro e w3 ⟨rfl,D,q⟩;have u:=(q.block w.heap.size (ze F) o).trans F;have z:=(q.block p.heap.size (ze G) f).trans G;obtain⟨a3,a4,a5,a6,a9,bb,be,bg,bk⟩:=eK u;obtain⟨b0,b1,b2,b3,b4,bl,bo,bp,bq⟩:=eK z;have aA:=D.lt));refine (C.o _ D).mono ?_;rintro e w4 ⟨rfl,aL,L⟩;have U:=(L.block w.heap.size (ze u) o).trans u;have X:=(L.block p.heap.size (ze z) f).trans z;clear a3 a4 a5 a6 a9 bb be bg bk b0 b1 b2 b3 b4 bl bo bp bq;obtain⟨a3,a4,a5,a6,a9,bb,be,bg,bk⟩:=eK U;obtain⟨b0,b1,b2,b3,b4,bl,bo,bp,bq⟩:=eK X;clear X;go_wp2_with fail;refine ab (v:=pI O N 0 0 0 ⟨#[]⟩ 0) (rn rfl rfl (rF U _ _ _ _ _ _ _)) rfl ⟨O,N,by first|rfl|(rw[M];rfl),T,?_,?_⟩
   . (repeat (with_reducible refine PL.aU ?_ a1 _ _));exact aL
   (repeat (with_reducible refine Fr.aO ?_ (an _) _ _));exact (Q.o.trans q).trans L
 have bC:g.bG n=g:=by unfold St.bG;rw[ae Z]
 rw[bC];have bB:((n:Int)==16)=false:=bf.2 (by omega);obtain⟨m,y⟩:∃m,g.name.ac 4 [58]=m:=⟨_,rfl⟩;rw[y];clear Z bC;cases M:m.is 5 cD with
 | true =>
   have J:z9 m=m.ad:=(by unfold z9;rw[ag M]);rw[J];clear J;go_enter func175,ntmps175;go_wp2_with fail;obtain⟨O,N,H,T⟩:=jk g;have R:=za (gG S j g (w.alloc (.cells #[.string ⟨#[]⟩,xI 0,xI 0,xI 0,xI 0,.string ⟨#[]⟩,xI 0] 95)) bs (a2.alloc _));rw[H] at R;refine R.o.mono ?_;rintro e p ⟨rfl,r,t⟩;have o:¬w.heap.size=j:=(by omega);have E:=(t.block w.heap.size a0 o).trans aV;have Y:=ze E;have P:aa (Fr (·=j) w p):=Fr.trans ((Fr.refl _ w).alloc _) t;have V:=r.lt;have A:=za bs.name;have B:=za (zP S j g.name ⟨#[58]⟩ _ so (p.alloc (.cells #[.string O,xI N,xI 0,xI 0,xI 0,.string ⟨#[]⟩,xI 0] 95)) A.o (r.alloc _));rw[fo r.tx (by decide),y] at B;have K:aa (bU m):=(by unfold aa;rw[<- y];exact A.o.ac 4 [58]);clear t H R;go_wp2_with fail;refine B.o.mono ?_;rintro e w2 ⟨rfl,d,i⟩;have f:¬p.heap.size=j:=(by omega);have F:=(i.block w.heap.size (by simp;omega) o).trans ((mm _ _ _ Y).trans E);have G:=(i.block p.heap.size (by simp) f).trans (zc p _);have Q:aa (Fr (·=j) w w2):=(P.o.alloc _).trans i;have ar:=d.lt;have s:=za (hY S j m ⟨#[98,111,111,108]⟩ _ r9 w2 K.o d);rw[MH d.tx (by decide),M] at s;have I:m.cP cD=m.ad:=(by unfold St.cP;rw[MH d.tx (by decide),M];rfl);rw[I] at s;clear i I;go_wp2_with (first|(go_at_call 140;refine (ph _).mono ?_;rintro e w' ⟨rfl,rfl⟩)|(go_at_call 137;refine s.o.mono ?_;rintro e w3 ⟨rfl,D,q⟩;have u:=(q.block w.heap.size (ze F) o).trans F;have z:=(q.block p.heap.size (ze G) f).trans G;obtain⟨a3,a4,a5,a6,a9,bb,be,bg,bk⟩:=eK u;obtain⟨b0,b1,b2,b3,b4,bl,bo,bp,bq⟩:=eK z;have aA:=D.lt));refine ab (v:=pI O N 1 0 0 ⟨#[]⟩ 0) (rn rfl rfl (rF (zr (by omega) u) _ _ _ _ _ _ _)) rfl ⟨O,N,by first|rfl|(rw[M];rfl),T,?_,?_⟩
   . (repeat (with_reducible refine PL.aU ?_ a1 _ _));exact D.aU V _ _
   (repeat (with_reducible refine Fr.aO ?_ (an _) _ _));exact (Q.o.trans q).aO (by omega) _ _
 | false =>
   have J:z9 m=m.ac 5 jo:=(by unfold z9;rw[ae (by rw[M];simp)]);rw[J];clear J;go_enter func175,ntmps175;go_wp2_with fail;obtain⟨O,N,H,T⟩:=jk g;have R:=za (gG S j g (w.alloc (.cells #[.string ⟨#[]⟩,xI 0,xI 0,xI 0,xI 0,.string ⟨#[]⟩,xI 0] 95)) bs (a2.alloc _));rw[H] at R;refine R.o.mono ?_;rintro e p ⟨rfl,r,t⟩;have o:¬w.heap.size=j:=(by omega);have E:=(t.block w.heap.size a0 o).trans aV;have Y:=ze E;have P:aa (Fr (·=j) w p):=Fr.trans ((Fr.refl _ w).alloc _) t;have V:=r.lt;have A:=za bs.name;have B:=za (zP S j g.name ⟨#[58]⟩ _ so (p.alloc (.cells #[.string O,xI N,xI 0,xI 0,xI 0,.string ⟨#[]⟩,xI 0] 95)) A.o (r.alloc _));rw[fo r.tx (by decide),y] at B;have K:aa (bU m):=(by unfold aa;rw[<- y];exact A.o.ac 4 [58]);clear t H R;go_wp2_with fail;refine B.o.mono ?_;rintro e w2 ⟨rfl,d,i⟩;have f:¬p.heap.size=j:=(by omega);have F:=(i.block w.heap.size (by simp;omega) o).trans ((mm _ _ _ Y).trans E);have G:=(i.block p.heap.size (by simp) f).trans (zc p _);have Q:aa (Fr (·=j) w w2):=(P.o.alloc _).trans i;have ar:=d.lt;have s:=za (hY S j m ⟨#[98,111,111,108]⟩ _ r9 w2 K.o d);rw[MH d.tx (by decide),M] at s;have I:m.cP cD=m:=(by unfold St.cP;rw[MH d.tx (by decide),M];rfl);rw[I] at s;clear i I;have C:=za (λp h=>zP S j m ⟨#[105,110,116]⟩ _ yJ p K.o h);have W:=d.tx;rw[nI W (by decide)] at C;clear W;go_wp2_with (first|(go_at_call 140;first|(with_reducible refine (ph _).mono ?_;rintro e w' ⟨rfl,rfl⟩)|(with_reducible refine (rU _).mono ?_;rintro e w' ⟨rfl,rfl⟩))|(go_at_call 137;refine s.o.mono ?_;rintro e w3 ⟨rfl,D,q⟩;have u:=(q.block w.heap.size (ze F) o).trans F;have z:=(q.block p.heap.size (ze G) f).trans G;obtain⟨a3,a4,a5,a6,a9,bb,be,bg,bk⟩:=eK u;obtain⟨b0,b1,b2,b3,b4,bl,bo,bp,bq⟩:=eK z;have aA:=D.lt));refine (C.o _ D).mono ?_;rintro e w4 ⟨rfl,aL,L⟩;have U:=(L.block w.heap.size (ze u) o).trans u;have X:=(L.block p.heap.size (ze z) f).trans z;clear a3 a4 a5 a6 a9 bb be bg bk b0 b1 b2 b3 b4 bl bo bp bq;obtain⟨a3,a4,a5,a6,a9,bb,be,bg,bk⟩:=eK U;obtain⟨b0,b1,b2,b3,b4,bl,bo,bp,bq⟩:=eK X;clear X;go_wp2_with fail;refine ab (v:=pI O N 0 0 0 ⟨#[]⟩ 0) (rn rfl rfl (rF U _ _ _ _ _ _ _)) rfl ⟨O,N,by first|rfl|(rw[M];rfl),T,?_,?_⟩
   . (repeat (with_reducible refine PL.aU ?_ a1 _ _));exact aL
   (repeat (with_reducible refine Fr.aO ?_ (an _) _ _));exact (Q.o.trans q).trans L
end
section
open Go.RowKit
theorem HS (k:Int)(s:Xb)(a n:Int)(w:Xw):(Instr.field 102 (.agg #[xI k,.string s,xI a,xI n]) 2).run prog w=.ok (xI a) w:=by kernel_rfl
theorem xt {fn:Func}{p:Tmp}(h:fn.results=#[.cell p 93]){a:Xa}{b:Nat}{w:Xw}(m:a[p]?.getD undef=xP b){c d e f:Xv}(l:xH w b #[c,d,e,f] 93):(results fn a).run prog w=.ok (.agg #[c,d,e,f]) w:=by obtain⟨g,i,j,k,_⟩:=zU l;simp[results,h,m,go_sem,g,i,j,k]
theorem KE (S:Xs)(d:Nat)(l:St)(w:Xw)(N:bU l)(Z:l.t.k=5)(O:PL S w d l) :
 xK 176 #[xP d] w λe w'=>∃(u:Xb) (t:Nat),e=.returned (.agg #[xI (if l.ad.is 5 aav=true then 2 else 1),xI l.t.a,.string u,xI t])/\((aS l.ad).t.k=2->u=(aS l.ad).t.s/\t=(aS l.ad).t.a)/\PL S w' d (aS l.ad).name/\Fr (·=d) w w':=by
 have L:=O.lt;have m:¬w.heap.size=d:=by omega
 have aL:=HS;have P:=za (kI N (by omega:l.t.k≠1));have n:=za N.ad;obtain⟨f,M⟩:∃f,l.ad=f:=⟨_,rfl⟩;rw[M] at P n;rw[M];cases H:f.is 5 aav with
 | true =>
   have X:aS f=f.ad:=(by unfold aS;rw[ag H]);rw[X];obtain⟨u,t,D,C⟩:=jk f.ad;have J:=za (λg h=>gG S d f.ad g n.o.ad h);rw[D] at J;go_enter func176,ntmps176;go_wp2_with fail;refine (jV S d l _ N.ok (by rw[Z];decide) (O.alloc _)).mono ?_;rintro e g ⟨rfl,a,s⟩;rw[P.o] at a;have p:=(s.block w.heap.size (by simp) m).trans (zc w _);have G:=ze p;have b:=a.lt;have c:¬g.heap.size=d:=(by omega);have x:aa (Fr (·=d) w g):=((Fr.refl _ w).alloc _).trans s;have o:=za (λI h=>hY S d f ⟨#[110,111,116]⟩ _ yL I n.o h);have F:f.cP aav=f.ad:=(by unfold St.cP;rw[MH a.tx (by decide),H];rfl);rw[MH a.tx (by decide),H,F] at o;simp only[Tk.dX];go_wp2_with (go_at_call 137;refine (o.o _ (a.alloc _)).mono ?_;rintro e I ⟨rfl,A,j⟩;have q:=(j.block w.heap.size (by rw[au];omega) m).trans ((mm _ _ _ G).trans p);have i:=(j.block g.heap.size (by rw[au];omega) c).trans (zc g _);obtain⟨Q,R,T,U,V,W⟩:=zU i;have y:=za ((x.o.alloc _).trans j));have K:=zh I g.heap.size 0 (xI 2) i;refine (J.o _ (A.aU b _ _)).mono ?_;rintro e Y ⟨rfl,B,k⟩;have r:=(k.block w.heap.size (by simp[World.setCell];exact ze q) m).trans (zr (by omega) q);have E:=(k.block g.heap.size (by simp[World.setCell];exact ze i) c).trans K;have z:aa (Fr (·=d) w Y):=(y.o.aO (by omega) _ _).trans k;obtain⟨Q,R,T,U,V,W⟩:=zU E;obtain⟨a0,a1,a2,a3,ar,aA⟩:=zU r;go_wp2_with fail;refine ab (v:=.agg #[xI 2,xI l.t.a,.string u,xI t]) (xt rfl rfl (kB (zr (by omega) (zr (by omega) r)) _ _ _ _)) rfl ⟨u,t,rfl,C,?_,?_⟩
   . (repeat (with_reducible refine PL.aU ?_ L _ _));exact (B.aU b _ _).aU b _ _
   (repeat (with_reducible refine Fr.aO ?_ (an _) _ _));exact (z.o.aO (by omega) _ _).aO (by omega) _ _
 | false =>
   have X:aS f=f:=(by unfold aS;rw[ae (by rw[H];simp)]);rw[X];obtain⟨u,t,D,C⟩:=jk f;have J:=za (λg h=>gG S d f g n.o h);rw[D] at J;go_enter func176,ntmps176;go_wp2_with fail;refine (jV S d l _ N.ok (by rw[Z];decide) (O.alloc _)).mono ?_;rintro e g ⟨rfl,a,s⟩;rw[P.o] at a;have p:=(s.block w.heap.size (by simp) m).trans (zc w _);have G:=ze p;have b:=a.lt;have c:¬g.heap.size=d:=(by omega);have x:aa (Fr (·=d) w g):=((Fr.refl _ w).alloc _).trans s;have o:=za (λI h=>hY S d f ⟨#[110,111,116]⟩ _ yL I n.o h);have F:f.cP aav=f:=(by unfold St.cP;rw[MH a.tx (by decide),H];rfl);rw[MH a.tx (by decide),H,F] at o;simp only[Tk.dX];go_wp2_with (go_at_call 137;refine (o.o _ (a.alloc _)).mono ?_;rintro e I ⟨rfl,A,j⟩;have q:=(j.block w.heap.size (by rw[au];omega) m).trans ((mm _ _ _ G).trans p);have i:=(j.block g.heap.size (by rw[au];omega) c).trans (zc g _);obtain⟨Q,R,T,U,V,W⟩:=zU i;have y:=za ((x.o.alloc _).trans j));refine (J.o _ A).mono ?_;rintro e Y ⟨rfl,B,k⟩;have r:=(k.block w.heap.size (ze q) m).trans q;have E:=(k.block g.heap.size (ze i) c).trans i;have z:aa (Fr (·=d) w Y):=y.o.trans k;obtain⟨Q,R,T,U,V,W⟩:=zU E;obtain⟨a0,a1,a2,a3,ar,aA⟩:=zU r;go_wp2_with fail;refine ab (v:=.agg #[xI 1,xI l.t.a,.string u,xI t]) (xt rfl rfl (kB (zr (by omega) (zr (by omega) r)) _ _ _ _)) rfl ⟨u,t,rfl,C,?_,?_⟩
   . (repeat (with_reducible refine PL.aU ?_ L _ _));exact (B.aU b _ _).aU b _ _
   (repeat (with_reducible refine Fr.aO ?_ (an _) _ _));exact (z.o.aO (by omega) _ _).aO (by omega) _ _
theorem xA {d:Nat}{f:FuncId}{part:Fn}(q:zH f)(O:zX d f part)(M:zv d part)(S:Xs)(c:Nat)(b:St)(p:Nat)(w:Xw)(a:Xp)(x k B:Nat)(t:Inv p b)(Q:18<=b.op+d)(R:4<=b.t.k)(ar:aF b.t.s.toList 0=k)(n:PL S w c b)(hB:B<=w.heap.size)(aA:c<B)(P:b.er=0->TR w B b.L x (.pointer a)) :
 xK 213 #[xP c,.pointer a,xI k,.func (.func f) #[xP c] #[]] w (ef S c B w ((part b.ad).1.put ⟨b.t.s,b.t.a,0,[x,(part b.ad).2],sE,0⟩).1 ((part b.ad).1.put ⟨b.t.s,b.t.a,0,[x,(part b.ad).2],sE,0⟩).2):=by
 have G:=t.bd.er (by omega);have C:=ai.gj t G (by omega);have Z:=M b.ad (p+1) C.af (by rw[St.bQ];exact Q);have T:=za t.bd;have V:=za (P G);have U:=za (λK D=>O S c b.ad (p+1) K C.af (by rw[St.bQ];exact Q) D);have X:=za (kI t.bd (by omega:b.t.k≠1));obtain⟨q0,a0,q2,q3,q4,q5,q6⟩:=n.cells;have I:=n.lt;have hf:=n.frozen;have W:aa (zH f):=q;unfold zH at q;clear O M P G C;go_enter func213,ntmps213;go_wp2_with (first|(go_at_call 195;refine (kC S c b k _ n).mono ?_;rintro e w' ⟨rfl,rfl⟩)|(go_at_call 174;refine (jV S c b _ T.o.ok (aJ (by decide) R) (n.alloc _)).mono ?_;rintro e K ⟨rfl,m,j⟩;rw[X.o] at m));have s:¬w.heap.size=c:=by omega
 have l:=(j.block w.heap.size (Nat.lt_of_lt_of_eq (cf _) (by simp)) s).trans (zc w _);have J:w.heap.size<K.heap.size:=ze l;refine (U.o _ m).mono ?_;rintro e i ⟨L,rfl,A,F,h⟩;have o:=(h.block w.heap.size J s).trans l;obtain⟨d0,d1,d2,d3,d4,d5,aV,Y⟩:=zt o;have aL:=h.size;clear l;go_wp2_with fail;go_ret;refine⟨some (xD w.heap.size 0),rfl,((A.aU I _ _).alloc _).put _,?_,((((((Fr.refl _ w).alloc _).trans j).trans h).aO (an _) _ _).alloc _)⟩;intro H;obtain⟨E,N⟩:=Z.L;have t2:=F.out H;rw[St.bu] at N;have r:(i.setCell (xD w.heap.size 5) (xS i.heap.size 2 2)).heap.size=i.heap.size:=by simp[World.setCell]
 refine TR.two (y:=x) (z:=(part b.ad).2) (g:=i.heap.size) (u:=.pointer a) (v:=.pointer L) hB (by omega) ?_ ?_ rfl ?_ ?_
 . show _=some (Obj.cells #[xI (aF b.t.s.toList 0:Nat),xI b.t.a,.string ⟨#[]⟩,xI (0:Nat),xI (df b.t.s.toList 0:Nat),xS i.heap.size 2 2] 211 (0,0));rw[ar,jY];exact (mm _ _ _ (by rw[r];exact Y)).trans (zh _ _ _ _ o)
 . have:=zc (i.setCell (xD w.heap.size 5) (xS i.heap.size 2 2)) (.cells #[.pointer a,.pointer L] 157);rw[r] at this;exact this
 . rw[N];exact (V.o.fr ((((((Fr.refl (·=c) w).alloc _).trans j).trans h).aO (an _) _ _).alloc _) (λk D _ h2=>by omega)).more E
 exact (t2.fr (((Fr.refl (·=w.heap.size) i).aY _ _).alloc _) (λk D _ h2=>by omega)).down (by omega)
end
section
open Go.RowKit
variable {l:Xu} {a:St}
def nU (c:Nat)(b:Xn):Prop:=∀a:St,a.t.k<=5->dC a b=if et a.t c=true then some (aF a.t.s.toList 0) else none
theorem K5 (b:a.t.k≠4)(c:a.t.k≠5):a.ej l=false:=by unfold St.ej;simp[b,c]
theorem nQ (h:a.t.k=4∨a.t.k=5):a.ej l=(a.t.s.toList==l):=by unfold St.ej;rcases h with h|h <;> simp[h]
theorem nM (c:a.t.k≠4)(d:a.t.k≠5):∀b,dC a b=none:=by
 intro b;induction b with
 | nil=>rfl
 | cons k b e=>show (if a.ej (wd k).toList=true then some k else dC a b)=none;rw[K5 c d,e];rfl
theorem ku:(wd 7).toList=[119,104,101,110]/\(wd 8).toList=[119,104,101,110,111,116]/\(wd 10).toList=[45]/\(wd 11).toList=[110,111,116]/\(wd 12).toList=[97,110,100]/\(wd 13).toList=[111,114]/\(wd 14).toList=[120,111,114]/\(wd 15).toList=[61]/\(wd 16).toList=[60,62]/\(wd 17).toList=[60]/\(wd 18).toList=[60,61]/\(wd 19).toList=[43]/\(wd 20).toList=[45]/\(wd 21).toList=[42]/\(wd 22).toList=[47]/\(wd 23).toList=[37]/\(wd 1).toList=[116,114,117,101]/\(wd 2).toList=[102,97,108,115,101]:=by decide +kernel
theorem J9:nU 0 [13,14]:=by
 intro a f;obtain⟨_,_,_,_,_,b,c,_⟩:=ku;by_cases h:a.t.k=4∨a.t.k=5
 . rw[nJ h];simp only[dC,nQ h,b,c];by_cases d:a.t.s.toList=[111,114]
   . rw[d];decide
   by_cases e:a.t.s.toList=[120,111,114]
   . rw[e];decide
   have:iH a.t.s.toList 0=false:=by unfold iH;rw[ae (by simp[d,e])];(repeat' split) <;> rfl
   rw[this];simp[d,e]
 rw[nM (by omega) (by omega),mi (by omega)];rfl
theorem Kw:nU 1 [12]:=by
 intro a d;obtain⟨_,_,_,_,b,_⟩:=ku;by_cases h:a.t.k=4∨a.t.k=5
 . rw[nJ h];simp only[dC,nQ h,b];by_cases c:a.t.s.toList=[97,110,100]
   . rw[c];decide
   have:iH a.t.s.toList 1=false:=by unfold iH;(repeat' split) <;> first|rfl|contradiction
   rw[this];simp[c]
 rw[nM (by omega) (by omega),mi (by omega)];rfl
theorem X2:nU 2 [19,20]:=by
 intro a f;obtain⟨_,_,_,_,_,_,_,_,_,_,_,b,c,_⟩:=ku;by_cases h:a.t.k=4∨a.t.k=5
 . rw[nJ h];simp only[dC,nQ h,b,c];by_cases d:a.t.s.toList=[43]
   . rw[d];decide
   by_cases e:a.t.s.toList=[45]
   . rw[e];decide
   have:iH a.t.s.toList 2=false:=by unfold iH;(repeat' split) <;> first|rfl|(exfalso;simp_all;done)
   rw[this];simp[d,e]
 rw[nM (by omega) (by omega),mi (by omega)];rfl
theorem Kv:nU 3 [21,22,23]:=by
 intro a i;obtain⟨_,_,_,_,_,_,_,_,_,_,_,_,_,b,c,d,_⟩:=ku;by_cases h:a.t.k=4∨a.t.k=5
 . rw[nJ h];simp only[dC,nQ h,b,c,d];by_cases e:a.t.s.toList=[42]
   . rw[e];decide
   by_cases f:a.t.s.toList=[47]
   . rw[f];decide
   by_cases g:a.t.s.toList=[37]
   . rw[g];decide
   have:iH a.t.s.toList 3=false:=by unfold iH;(repeat' split) <;> first|rfl|(exfalso;simp_all;done)
   rw[this];simp[e,f,g]
 rw[nM (by omega) (by omega),mi (by omega)];rfl
end
section
open Go.RowKit
variable {b:Xn}
def nT (w:Xw)(a:Nat)(b:Xn):Prop:=∀(i k:Nat),b[i]?=some k->w.cell? (xD a i)=some (xI k)
theorem nT.fr {w e:Xw}{a d:Nat}(h:nT w a b)(f:Fr (·=d) w e)(c:¬a=d)(j:a<w.heap.size):nT e a b:=λi k g=>((sw f).1 a i j c).trans (h i k g)
theorem pn {d:Nat}{f:FuncId}{part:Fn}{o:Nat}(I:zH f)(a1:zX d f part)(aV:zv d part)(M:nU o b)(a4:b.length<=100)(a0:∀k∈b,k<24)
 (S:Xs) (s:Nat) (q:St) (p:Nat) (w:Xw) (P n:Nat) (bk:n=b.length) (be:Inv p q) (a6:18<=q.op+d) (hR:PL S w s q) (hK:nT w P b) (bB:s<P) (L:P<w.heap.size) :
 xK 205 #[xP s,.func (.func f) #[xP s] #[],xS P n n] w (ef S s w.heap.size w (eo o part q).1 (eo o part q).2):=by
 have T:=aV q p be a6;have bp:=za (a1 S s q p w be a6 hR);have hM:eo o part q=dx o part 1300 (part q):=rfl;rw[hM];have a5:=hR.lt;have bq:=za hK;have bo:=za T.af;have bC:=za T.num;have bv:aa (18<=(part q).1.op+d):=by unfold aa;rw[T.op];exact a6
 have bt:=za bk;have bs:=za a1;have bb:=za aV;have ar:=za M;have aL:=za I;unfold zH at I;clear hR hM T hK bk a1 aV M;generalize part q=x0 at *;obtain⟨R,m⟩:∃R,dx o part 1300 x0=R:=⟨_,rfl⟩;rw[m];have A:=za m;clear m;go_enter func205,ntmps205;go_wp2_with fail;refine bp.o.mono ?_;rintro e w1 ⟨bx,rfl,F,a2,D⟩;have Y:=za F;have V:=za D;clear F D;go_wp2_with fail;go_loopg [7] 1300 (λk l wr=>∃(x:St×Nat) (a:Xp),l=.pointer a/\aa (dx o part k x=R)/\rem x.1<k/\aa (Inv p x.1)/\aa (18<=x.1.op+d)/\aa (PL S wr s x.1)/\aa (x.1.er=0->TR wr w.heap.size x.1.L x.2 (.pointer a))/\aa (Fr (·=s) w wr));case atStart => refine⟨x0,bx,rfl,A.o,?_,bo.o,bv.o,Y.o,a2.out,V.o⟩;unfold rem;split <;> omega
 case round =>
  obtain⟨x,a,rfl,Q,bl,c,v,u,B,t⟩:=hrel;have bg:=u.o.lt;obtain⟨g,rfl⟩:∃g,gk=g+1:=⟨gk-1,by omega⟩;have i:=za (kF S s x.1 P n b bt.o a4 wr (bq.o.fr t.o (by omega) L) a0 c.o.ok.tk u.o);have j:=ar.o x.1 c.o.ok.tk;have a9:=t.o.size;cases r:et x.1.t o with
  | false =>
    rw[r,ae (by simp)] at j;have H:R=x:=by
     rw[<- Q.o]
     show (if x.1.er=0/\et x.1.t o=true then _ else x)=x;rw[ae (by rw[r];simp)]
    have aA:=za H;rw[j] at i;simp only[fR] at i;clear r j H Q;go_wp2_with (go_at_call 212;refine i.o.mono ?_;rintro e w' ⟨rfl,rfl⟩);go_ret;rw[aA.o];exact⟨a,rfl,u.o,B.o,t.o⟩
  | true =>
    rw[r,ag rfl] at j;have K:4<=x.1.t.k:=by
     rcases Nat.lt_or_ge x.1.t.k 4 with h|h
     . rw[mi (by omega)] at r;cases r
     exact h
    have J:=c.o.bd.er (by omega);have e3:=ai.gj c.o J (nS r);have C:=bb.o x.1.ad (p+1) e3.af (by rw[St.bQ];exact v.o);have X:aa (dx o part g ((part x.1.ad).1.put ⟨x.1.t.s,x.1.t.a,0,[x.2,(part x.1.ad).2],sE,0⟩)=R):=by
     have h:=Q.o;unfold aa;rw[<- h]
     show _=(if x.1.er=0/\et x.1.t o=true then _ else x);rw[ag ⟨J,r⟩]
    have O:aa (Inv p ((part x.1.ad).1.put ⟨x.1.t.s,x.1.t.a,0,[x.2,(part x.1.ad).2],sE,0⟩).1):=(ai.put C.af _).af;have N:aa (18<=((part x.1.ad).1.put ⟨x.1.t.s,x.1.t.a,0,[x.2,(part x.1.ad).2],sE,0⟩).1.op+d):=(by unfold aa;show 18<=(part x.1.ad).1.op+d;rw[C.op,St.bQ];exact v.o);have z:aa (rem ((part x.1.ad).1.put ⟨x.1.t.s,x.1.t.a,0,[x.2,(part x.1.ad).2],sE,0⟩).1<g):=by
     unfold aa rem
     show (if (part x.1.ad).1.er=0 then 1201-(part x.1.ad).1.t.a else 0)<g;have h1:rem x.1=1201-x.1.t.a:=(by unfold rem;rw[ag J]);have h2:=C.ta;have h3:x.1.t.a+1<=x.1.ad.t.a:=(by have:=c.o.tok (nS r);rw[St.dZ J];have hf:=zV x.1.src x.1.t.t c.o.ok.tt;simp only;omega);have h4:=C.af.ok.bR;have h5:=c.o.ok.bR;split <;> omega
    have U:=za (xA aL.o bs.o bb.o S s x.1 p wr a x.2 _ w.heap.size c.o v.o K rfl u.o a9 a5 B.o);rw[j] at i;simp only[fR] at i;clear r j Q J e3 C K;generalize (part x.1.ad).1.put ⟨x.1.t.s,x.1.t.a,0,[x.2,(part x.1.ad).2],sE,0⟩=y at *;generalize aF x.1.t.s.toList 0=kk at *;go_wp2_with (first|(go_at_call 212;refine i.o.mono ?_;rintro e w' ⟨rfl,rfl⟩)|(go_at_call 213;refine U.o.mono ?_;rintro e w3 ⟨bA,rfl,G,a3,E⟩;have Z:=za G;have W:=za E;clear G E));go_roundg g;case measure=>omega
    exact⟨y,bA,rfl,X,z.out,O,N,Z.o,a3.out,t.o.trans W.o⟩
end
section
open Go.RowKit
variable {part:Fn} {d:Nat}
theorem iF (w:Xw)(b:Xn)(a:Xa)(t:Xy)(h:a=(b.map λk:Nat=>(xI (k:Int))).toArray):nT (w.alloc (.cells a t)) w.heap.size b:=by intro i k c;subst h;have:=zc w (.cells (b.map λk:Nat=>(xI (k:Int))).toArray t);unfold World.cell?;rw[this];simp[c]
theorem ef.alloc {S:Xs}{c B:Nat}{w:Xw}{o:Obj}{b:St}{r:Nat}{e:Ending}{f:Xw}(h:ef S c B (w.alloc o) b r e f)(l:w.heap.size<=B):ef S c w.heap.size w b r e f:=by obtain⟨a,g,i,j,k⟩:=h;exact⟨a,g,i,λm=>(j.out m).down l,((Fr.refl _ w).alloc o).trans k⟩
theorem jg (w:Xw)(o:Obj):w.heap.size<=(w.alloc o).heap.size:=by simp
theorem KR:zH 206:=λ_ _=>by kernel_rfl
theorem Iu (n:zX d 206 part)(h:zv d part):zX d 194 (eo 0 part):=by intro S q f p w m o c;have b:=c.lt;have g:=za (pn KR n h J9 (by decide) (by decide) S q f p (w.alloc (.cells #[xI 13,xI 14] 208)) w.heap.size 2 rfl m o (c.alloc _) (iF w [13,14] _ _ rfl) b (by simp));generalize eo 0 part f=R at *;go_enter func194,ntmps194;go_wp2_with fail;refine g.o.mono ?_;rintro e r i;obtain⟨a,rfl,j,k,l⟩:=i.alloc (jg _ _);go_wp2_with fail;go_ret;exact⟨a,rfl,j,k,l⟩
theorem KY:zH 214:=λ_ _=>by kernel_rfl
theorem JC (n:zX d 214 part)(h:zv d part):zX d 206 (eo 1 part):=by intro S q f p w m o c;have b:=c.lt;have g:=za (pn KY n h Kw (by decide) (by decide) S q f p (w.alloc (.cells #[xI 12] 208)) w.heap.size 1 rfl m o (c.alloc _) (iF w [12] _ _ rfl) b (by simp));generalize eo 1 part f=R at *;go_enter func206,ntmps206;go_wp2_with fail;refine g.o.mono ?_;rintro e r i;obtain⟨a,rfl,j,k,l⟩:=i.alloc (jg _ _);go_wp2_with fail;go_ret;exact⟨a,rfl,j,k,l⟩
theorem HX:zH 223:=λ_ _=>by kernel_rfl
theorem J5 (n:zX d 223 part)(h:zv d part):zX d 220 (eo 2 part):=by intro S q f p w m o c;have b:=c.lt;have g:=za (pn HX n h X2 (by decide) (by decide) S q f p (w.alloc (.cells #[xI 19,xI 20] 208)) w.heap.size 2 rfl m o (c.alloc _) (iF w [19,20] _ _ rfl) b (by simp));generalize eo 2 part f=R at *;go_enter func220,ntmps220;go_wp2_with fail;refine g.o.mono ?_;rintro e r i;obtain⟨a,rfl,j,k,l⟩:=i.alloc (jg _ _);go_wp2_with fail;go_ret;exact⟨a,rfl,j,k,l⟩
theorem Jf:zH 224:=λ_ _=>by kernel_rfl
theorem H6 (n:zX d 224 part)(h:zv d part):zX d 223 (eo 3 part):=by intro S q f p w m o c;have b:=c.lt;have g:=za (pn Jf n h Kv (by decide) (by decide) S q f p (w.alloc (.cells #[xI 21,xI 22,xI 23] 208)) w.heap.size 3 rfl m o (c.alloc _) (iF w [21,22,23] _ _ rfl) b (by simp));generalize eo 3 part f=R at *;go_enter func223,ntmps223;go_wp2_with fail;refine g.o.mono ?_;rintro e r i;obtain⟨a,rfl,j,k,l⟩:=i.alloc (jg _ _);go_wp2_with fail;go_ret;exact⟨a,rfl,j,k,l⟩
theorem KC:zH 220:=λ_ _=>by kernel_rfl
theorem yx (a:St)(_hk:a.t.k<=5)(l:Tx a.src a.t):dC a [15,16,17,18]=if eh a.t=true then some (aF a.t.s.toList 0) else none:=by
 obtain⟨_,_,_,_,_,_,_,c,e,f,g,_⟩:=ku;by_cases h:a.t.k=4∨a.t.k=5
 . simp only[dC,nQ h,c,e,f,g];by_cases hq:a.t.s.toList=[61]∨a.t.s.toList=[60,62]∨a.t.s.toList=[60]∨a.t.s.toList=[60,61]
   . have b:a.t.k=4:=by
      rcases h with h|h
      . exact h
      have:=l.kw h;unfold ep at this;rcases hq with hq|hq|hq|hq <;> (rw[hq] at this;exact absurd this (by decide))
     unfold eh;rw[b];rcases hq with hq|hq|hq|hq <;> (rw[hq];decide)
   simp only[not_or] at hq;obtain⟨i,j,k,b⟩:=hq;unfold eh;simp[i,j,k,b]
 rw[nM (by omega) (by omega)];have b:(a.t.k==4)=false:=by simp;omega
 have:eh a.t=false:=by unfold eh;rw[b];rfl
 rw[this];rfl
theorem Jw (C:zX d 220 part)(A:zv d part):zX d 214 (ei part):=by
 intro S m c p w E z G;have v:=G.lt;have B:=za (C S m c p w E z G);have D:=A c p E z;have j:=za D.af;have H:aa (18<=(part c).1.op+d):=by unfold aa;rw[D.op];exact z
 have F:ei part c=if (part c).1.er=0/\eh (part c).1.t=true then (part (part c).1.ad).1.put ⟨(part c).1.t.s,(part c).1.t.a,0,[(part c).2,(part (part c).1.ad).2],sE,0⟩ else part c:=rfl;generalize part c=x at *;cases l:eh x.1.t with
 | false => have h:ei part c=x:=(by rw[F,ae (by rw[l];simp)]);rw[h];go_enter func214,ntmps214;go_wp2_with fail;refine B.o.mono ?_;rintro e f ⟨t,rfl,a,i,g⟩;have b:=za (kF S m x.1 f.heap.size 4 [15,16,17,18] rfl (by decide) (f.alloc (.cells #[xI 15,xI 16,xI 17,xI 18] 208)) (iF f _ _ _ rfl) (by decide) j.o.ok.tk (a.alloc _));rw[yx x.1 j.o.ok.tk a.tx,l,ae (by simp)] at b;simp only[fR] at b;go_wp2_with (go_at_call 212;refine b.o.mono ?_;rintro e J ⟨rfl,rfl⟩);go_ret;exact⟨t,rfl,a.alloc _,λn=>(i.out n).fr ((Fr.refl (·=m) f).alloc _) (λk _ _ _=>by omega),g.alloc _⟩
 | true => have s:4<=x.1.t.k:=(by unfold eh at l;simp at l;omega);have n:=j.o.bd.er (by omega);have h:ei part c=(part x.1.ad).1.put ⟨x.1.t.s,x.1.t.a,0,[x.2,(part x.1.ad).2],sE,0⟩:=(by rw[F,ag ⟨n,l⟩]);rw[h];go_enter func214,ntmps214;go_wp2_with fail;refine B.o.mono ?_;rintro e f ⟨t,rfl,a,i,g⟩;have b:=za (kF S m x.1 f.heap.size 4 [15,16,17,18] rfl (by decide) (f.alloc (.cells #[xI 15,xI 16,xI 17,xI 18] 208)) (iF f _ _ _ rfl) (by decide) j.o.ok.tk (a.alloc _));rw[yx x.1 j.o.ok.tk a.tx,l,ag rfl] at b;simp only[fR] at b;have K:=g.size;have o:=za (xA KC C A S m x.1 p (f.alloc (.cells #[xI 15,xI 16,xI 17,xI 18] 208)) t x.2 _ w.heap.size j.o H.o s rfl (a.alloc _) (by simp;omega) v (λn=>(i.out n).fr ((Fr.refl (·=m) f).alloc _) (λk _ _ _=>by omega)));generalize (part x.1.ad).1.put ⟨x.1.t.s,x.1.t.a,0,[x.2,(part x.1.ad).2],sE,0⟩=y at *;generalize aF x.1.t.s.toList 0=L at *;go_wp2_with (first|(go_at_call 212;refine b.o.mono ?_;rintro e J ⟨rfl,rfl⟩)|(go_at_call 213;refine o.o.mono ?_;rintro e M ⟨I,rfl,r,u,q⟩));go_ret;exact⟨I,rfl,r,u,(g.alloc _).trans q⟩
end
end Go.Proofs.YtcnelakggnfnhaaGreatDoor
