/- Part 8 of the proof. -/
import Derived.Test.YtmfkofhgdjechaaGreatDoorK06
set_option maxRecDepth 100000
set_option maxHeartbeats 8000000
namespace Go.Proofs.YtmfkofhgdjechaaGreatDoor
open Go.Proofs.Tryz
open Go.RowKit
section
def Tk.dX (src:Xb)(t:Tk):Value:=.agg #[xI (ck t),.string (cs src t),xI t.a,xI (cn t)]
theorem Jp (s:Xb)(a:Nat)(d:a<=s.size):nV (s.extract a s.size) a=(eM s a).dX s:=by
 have c:=rr b6 s a d;have i:=jl b6 s a d;have j:=ll b6 s a;obtain⟨n,f⟩:∃n,zQ b6 (s.extract a s.size) 0=n:=⟨_,rfl⟩;rw[f] at c;have g:(s.extract a s.size).extract 0 n=s.extract a (zQ b6 s a):=by rw[nC s a n (by omega),<- c];congr 1;omega
 unfold nV eM;simp only[f,g];have h:(s.extract a (zQ b6 s a)).size=zQ b6 s a-a:=by rw[ByteArray.size_extract];omega
 rw[h];cases k:ep (s.extract a (zQ b6 s a)) with
 | true=>rfl
 | false =>
   by_cases e:zQ b6 s a-a<=12
   . have b:¬zQ b6 s a-a > 12:=(by omega);simp[e,b,Tk.dX,ci,ck,cs,cn]
   have b:zQ b6 s a-a > 12:=(by omega);simp[e,b,Tk.dX,ci,ck,cs,cn]
theorem JG (s:Xb)(a:Nat)(b:a<=s.size):∀f i x,dR (s.extract a s.size) f i x=dR s f (a+i) x:=by
 intro f;induction f with
 | zero=>intro i x;rfl
 | succ f d =>
   intro i x
   show (if i<(s.extract a s.size).size/\zT (bt (s.extract a s.size) i)=true then _ else x)=(if a+i<s.size/\zT (bt s (a+i))=true then _ else x);rw[jZ s a b,nP s a i b];by_cases h:i<s.size-a/\zT (bt s (a+i))=true
   . rw[ag h,ag (show a+i<s.size/\zT (bt s (a+i))=true from ⟨by omega,h.2⟩),d (i+1)];rfl
   rw[ae h,ae (show ¬(a+i<s.size/\zT (bt s (a+i))=true) from λc=>h ⟨by omega,c.2⟩)]
theorem Kk (s:Xb)(a:Nat)(b:a<=s.size):pK (s.extract a s.size) a=(fc s a).dX s:=by
 have c:=rr zT s a b;have f:=jl zT s a b;obtain⟨n,d⟩:∃n,zQ zT (s.extract a s.size) 0=n:=⟨_,rfl⟩;rw[d] at c;have e:(s.extract a s.size).extract 0 n=s.extract a (zQ zT s a):=by rw[nC s a n (by omega),<- c];congr 1;omega
 unfold pK fc;rw[JG s a b,jZ s a b];simp only[d,e,Nat.add_zero,Nat.sub_zero];cases g:(dR s (s.size-a) a (true,0)).1 with
 | true=>rfl
 | false=>rfl
theorem JT (s:Xb)(a:Nat)(h:a<s.size):pB (s.extract a s.size) a=(dT s a).dX s:=by
 unfold pB dT;rw[jZ s a (by omega),nP s a 0 (by omega)];have d:(s.extract a s.size).extract 0 1=s.extract a (a+1):=nC s a 1 (by omega);have b:(2<=s.size-a/\(((s.extract a s.size).extract 0 2).toList==[45,62]||((s.extract a s.size).extract 0 2).toList==[60,62]||((s.extract a s.size).extract 0 2).toList==[60,61])=true)=(a+2<=s.size/\((s.extract a (a+2)).toList==[45,62]||(s.extract a (a+2)).toList==[60,62]||(s.extract a (a+2)).toList==[60,61])=true):=by
  apply propext;by_cases g:a+2<=s.size
  . rw[nC s a 2 g];constructor <;> (rintro⟨e,f⟩;exact⟨by omega,f⟩)
  constructor <;> (rintro⟨e,_⟩;omega)
 by_cases c:(a+2<=s.size/\((s.extract a (a+2)).toList==[45,62]||(s.extract a (a+2)).toList==[60,62]||(s.extract a (a+2)).toList==[60,61])=true)
 . rw[ag (b▸c),ag c,nC s a 2 c.1];rfl
 rw[ae (b▸c),ae c,d];simp only[Nat.add_zero];split <;> rfl
theorem xJ (S:Xs)(s:Xb)(p:Nat)(w:Xw)(a3:s.size<=1200)(P:p<=s.size)(V:Gl S w):xK 32 #[.string s,xI p] w λe k=>e=.returned ((zZ s p).dX s)/\xB w k:=by
 have z:=jZ s p P;have Q:=rr cM s p P;have al:=ll cM s p;have d:=jl cM s p P;obtain⟨n,C⟩:∃n,zQ cM (s.extract p s.size) 0=n:=⟨_,rfl⟩;rw[C] at Q;have a0:=za C;have g:=za (mj _ cM Ii Ib (s.extract p s.size) (by omega));rw[C] at g;have f:aa (zZ s p=if zQ cM s p=s.size then ⟨0,zQ cM s p,zQ cM s p,⟨#[]⟩,0⟩ else if gv (bt s (zQ cM s p)) then eM s (zQ cM s p) else if zT (bt s (zQ cM s p)) then fc s (zQ cM s p) else dT s (zQ cM s p)):=rfl;generalize zQ cM s p=q at *;have Y:=za V;have ar:IntKind.i64.wrap ((p:Int)+(n:Int))=(q:Nat):=by rw[IntKind.wrap_i64];omega
 have W:(p:Int)+(n:Int)=(q:Nat):=by omega
 have D:q<=1200:=by omega
 have y:(s.extract q s.size).size=s.size-q:=jZ s q d;clear C V z;by_cases x:q=s.size
 . have N:(s.extract q s.size).toList.isEmpty=true:=by rw[List.isEmpty_iff,<- List.length_eq_zero_iff,ri,y];omega
   rw[ag x] at f;have a2:=za x;clear x;go_enter func32,ntmps32;go_wp2_with (go_at_call 66;refine (g.o _).mono ?_;rintro e k ⟨rfl,rfl⟩);refine bodyPost_ret (v:=ci 1 ⟨#[]⟩ q 0) (by simp[results,results32,go_sem,ci]) rfl ⟨by rw[f.o];rfl,(Below.refl _ _).alloc (an _) _⟩
 have O:q<s.size:=by omega
 have N:(s.extract q s.size).toList.isEmpty=false:=by rw[Bool.eq_false_iff];intro h;rw[List.isEmpty_iff,<- List.length_eq_zero_iff,ri,y] at h;omega
 have o:0<(s.extract q s.size).size:=by omega
 have l:=kb o;rw[nP s q 0 d,Nat.add_zero] at l;have Z:=za l;rw[ae x] at f;obtain⟨c,M⟩:∃c,bt s q=c:=⟨_,rfl⟩;rw[M] at l f;have ak:=za M;have r:(s.extract q s.size).size<=1200:=by omega
 have K:=za (Jp s q d);have F:=za (Kk s q d);have I:=za (JT s q O);have J:=za (λA=>Jm (s.extract q s.size) r q A);have H:=za (λA=>Jt (s.extract q s.size) r o q A);clear M x;cases t:gv c with
 | true => rw[t,ag rfl] at f;have B:=za t;clear t;go_enter func32,ntmps32;go_wp2_with (first|(go_at_call 66;refine (g.o _).mono ?_;rintro e k ⟨rfl,rfl⟩)|(go_at_call 68;refine (mb c _).mono ?_;rintro e k ⟨rfl,rfl⟩;rw[B.o]));refine (J.o _).mono ?_;rintro e X ⟨rfl,a⟩;rw[K.o];have b:=(a.block w.heap.size (Nat.lt_of_lt_of_eq (cf _) (by simp))).trans (zc w _);obtain⟨d0,d1,d2,d3,R,U⟩:=zU b;have j:=za b;have i:=za a;clear a b;simp only[Tk.dX];go_wp2_with fail;refine bodyPost_ret (v:=(zZ s p).dX s) (by rw[f.o];exact mc rfl rfl (kB j.o _ _ _ _)) rfl ⟨rfl,?_⟩;exact (((((nK i.o).setCell (an _) _).setCell (an _) _).setCell (an _) _).setCell (an _) _)
 | false =>
   rw[t,ae (by simp)] at f;have B:=za t;clear t;cases m:zT c with
   | true => rw[m,ag rfl] at f;have E:=za (λA h=>Ic S (s.extract q s.size) r o (by rw[nP s q 0 d,Nat.add_zero,ak.o];exact m) q A h);have L:=za m;have u:=Y.o.of (T:=λ_=>False) ((Fr.refl _ w).alloc (.cells #[xI 0,.string ⟨#[]⟩,xI 0,xI 0] 66)) (λ_ h=>h.elim);have G:=za u;clear m u;go_enter func32,ntmps32;go_wp2_with (first|(go_at_call 66;refine (g.o _).mono ?_;rintro e k ⟨rfl,rfl⟩)|(go_at_call 68;refine (mb c _).mono ?_;rintro e k ⟨rfl,rfl⟩;rw[B.o])|(go_at_call 70;refine (mf c _).mono ?_;rintro e k ⟨rfl,rfl⟩;rw[L.o]));refine (E.o _ G.o).mono ?_;rintro e X ⟨rfl,a⟩;rw[F.o];have b:=(a.block w.heap.size (Nat.lt_of_lt_of_eq (cf _) (by simp))).trans (zc w _);obtain⟨d0,d1,d2,d3,R,U⟩:=zU b;have j:=za b;have i:=za a;clear a b;simp only[Tk.dX];go_wp2_with fail;refine bodyPost_ret (v:=(zZ s p).dX s) (by rw[f.o];exact mc rfl rfl (kB j.o _ _ _ _)) rfl ⟨rfl,?_⟩;exact (((((nK i.o).setCell (an _) _).setCell (an _) _).setCell (an _) _).setCell (an _) _)
   | false => rw[m,ae (by simp)] at f;have L:=za m;clear m;go_enter func32,ntmps32;go_wp2_with (first|(go_at_call 66;refine (g.o _).mono ?_;rintro e k ⟨rfl,rfl⟩)|(go_at_call 68;refine (mb c _).mono ?_;rintro e k ⟨rfl,rfl⟩;rw[B.o])|(go_at_call 70;refine (mf c _).mono ?_;rintro e k ⟨rfl,rfl⟩;rw[L.o]));refine (H.o _).mono ?_;rintro e X ⟨rfl,a⟩;rw[I.o];have b:=(a.block w.heap.size (Nat.lt_of_lt_of_eq (cf _) (by simp))).trans (zc w _);obtain⟨d0,d1,d2,d3,R,U⟩:=zU b;have j:=za b;have i:=za a;clear a b;simp only[Tk.dX];go_wp2_with fail;refine bodyPost_ret (v:=(zZ s p).dX s) (by rw[f.o];exact mc rfl rfl (kB j.o _ _ _ _)) rfl ⟨rfl,?_⟩;exact (((((nK i.o).setCell (an _) _).setCell (an _) _).setCell (an _) _).setCell (an _) _)
theorem KO (S:Xs)(f:Nat)(a:St)(s:Xb)(w:Xw)(d:PL S w f a):xK 73 #[xP f,.string s] w λe g=>e=.returned (.bool (ck a.t==2&&(cs a.src a.t).toList==s.toList))/\w=g:=by
 obtain⟨h,i,j,k,l,m,n⟩:=d.cells;clear d;by_cases b:ck a.t=2
 . have c:((ck a.t:Int)==2)=true:=beq_iff_eq.2 (by omega);have H:aa ((ck a.t==2)=true):=by unfold aa;simp[b]
   clear b;go_enter func73,ntmps73;go_wp2;go_ret;exact⟨by rw[H.o];simp,rfl⟩
 have c:((ck a.t:Int)==2)=false:=bf.2 (by omega);have H:aa ((ck a.t==2)=false):=by unfold aa;simp[b]
 clear b;go_enter func73,ntmps73;go_wp2;go_ret;exact⟨by rw[H.o];rfl,rfl⟩
theorem py (S:Xs)(k:Nat)(a:Nat)(w:Xw):xK 31 #[.iface 399 (.pointer (some (S k))),xI a] w λe b=>e=.returned (.agg #[.iface 399 (.pointer (some (S k))),xI a])/\xB w b:=by go_enter func31,ntmps31;go_wp2;exact bodyPost_ret (v:=.agg #[.iface 399 (.pointer (some (S k))),xI a]) (by simp[results,results31,go_sem]) rfl ⟨rfl,(Below.refl _ _).alloc (an _) _⟩
theorem li (S:Xs)(f:Nat)(a:St)(e:Nat)(j:e≠0)(w:Xw)(d:PL S w f a):xK 75 #[xP f,.iface 399 (.pointer (some (S e)))] w λk i=>k=.returned (.tuple #[])/\PL S i f (a.fail e a.t.a)/\Fr (·=f) w i:=by
 have y:=d.frozen;have n:=d.lt;obtain⟨q,r,s,u,v,x,h⟩:=d.cells;by_cases c:a.er=0
 . have g:aa (a.fail e a.t.a={ a with er:=e,at':=a.t.a,t:=⟨1,a.t.a,a.t.t,⟨#[]⟩,0⟩ }):=by unfold aa St.fail;rw[ag c]
   rw[show cJ S a.er a.at'=.nilIface by simp[cJ,c]] at h;clear c;go_enter func75,ntmps75;go_wp2_with (go_at_call 31;refine (py S _ _ _).mono ?_;rintro p z ⟨rfl,b⟩;obtain⟨l,m⟩:=mD b;have o:=b.size);go_end0;refine⟨rfl,?_,?_⟩
   . have P:=((d.below b).qj e a.t.a).hd ⟨1,a.t.a,a.t.t,⟨#[]⟩,0⟩ (yy _ _ _);rw[show cJ S e a.t.a=.iface 58 (.agg #[aW S e,xI a.t.a]) by simp[cJ,j]] at P;rw[g.o];exact P
   exact (((((((Fr.refl _ w).gA b).aY _ _).aY _ _).aY _ _).aY _ _).aY _ _)
 have g:aa (a.fail e a.t.a={ a with t:=⟨1,a.t.a,a.t.t,⟨#[]⟩,0⟩ }):=by unfold aa St.fail;rw[ae c]
 rw[show cJ S a.er a.at'=.iface 58 (.agg #[aW S a.er,xI a.at']) by simp[cJ,c]] at h;clear c;go_enter func75,ntmps75;go_wp2;go_end0;refine⟨rfl,?_,?_⟩
 . rw[g.o];exact d.hd ⟨1,a.t.a,a.t.t,⟨#[]⟩,0⟩ (yy _ _ _)
 exact ((((Fr.refl _ w).aY _ _).aY _ _).aY _ _).aY _ _
theorem I3 (S:Xs)(s:Xb)(b:Int)(p:Nat)(a:b=p)(w:Xw)(f:s.size<=1200)(d:p<=s.size)(c:Gl S w):xK 32 #[.string s,xI b] w λe g=>e=.returned ((zZ s p).dX s)/\xB w g:=by subst a;exact xJ S s p w f d c
theorem jV (S:Xs)(f:Nat)(a:St)(w:Xw)(h:a.Ok)(q:2<=a.t.k)(g:PL S w f a):xK 190 #[xP f] w λA y=>A=.returned (a.t.dX a.src)/\PL S y f { a with t:=zZ a.src a.t.t }/\Fr (·=f) w y:=by
 have Z:=g.frozen;have m:=g.lt;have d:¬w.heap.size=f:=by omega
 have s:¬f=w.heap.size:=by omega
 obtain⟨Q,R,U,V,W,X,Y⟩:=g.cells;have B:=h.src;have D:=h.tt;have E:=h.ta;have x:(cs a.src a.t).size=a.t.t-a.t.a:=by rw[Lj g.tx,ag q,ByteArray.size_extract];omega
 have i:IntKind.i64.wrap ((a.t.a:Int)+((cs a.src a.t).size:Int))=(a.t.t:Nat):=by rw[x,IntKind.wrap_i64];omega
 have z:=za i;have H:(cs a.src a.t).size<=1200:=by omega
 have p:=za g;have o:=za h;clear g h q x i;generalize l:cs a.src a.t=C at *;go_enter func190,ntmps190;go_wp2_with fail;go_region_with (go_at_call 32;refine (I3 S _ _ a.t.t z.o _ o.o.src o.o.tt (((p.o.alloc _).alloc _).drew.gl)).mono ?_;rintro e n ⟨rfl,b⟩;replace b:=zw b;have c:aa (PL S n f a):=((p.o.alloc _).alloc _).below b;have j:aa (Fr (·=f) w n):=(((Fr.refl _ _).alloc _).alloc _).gA b;obtain⟨L,B,D,E,M,N,O⟩:=c.o.cells;have P:=c.o.frozen;have r:=c.o.lt;have k:=za b;obtain⟨G,I⟩:=mD b;have K:=b.size;clear b;simp only[Tk.dX])
 all_goals go_wp2_with fail
 all_goals
  have J:xH n w.heap.size #[xI 0,.string ⟨#[]⟩,xI 0,xI 0] 66:=(k.o.block _ (by simp;omega)).trans ((Below.heap_alloc _ _ _ (by simp)).trans (zc _ _));refine bodyPost_ret (v:=a.t.dX a.src) (by unfold Tk.dX;rw[l];exact mc rfl rfl (kB (zr d (zr d (zr d (zr d J)))) _ _ _ _)) rfl ⟨rfl,?_,?_⟩
  . generalize F:zZ a.src a.t.t=T;have u:=yh a.src a.t.t;rw[F] at u
    (repeat (with_reducible refine PL.aU ?_ m _ _));exact c.o.hd T u
  (repeat (first|with_reducible refine Fr.aO ?_ (an _) _ _|with_reducible refine Fr.aY ?_ _ _));exact j.o
end
section
variable {a:St}
theorem fH (S:Xs)(b:Nat)(a:St)(s:Xb)(l:Xu)(f:s.toList=l)(w:Xw)(d:a.t.k<=5)(c:PL S w b a):xK 73 #[xP b,.string s] w λe g=>e=.returned (.bool (a.ej l))/\w=g:=by subst f;have:=KO S b a s w c;rwa [KL d] at this
structure bU (a:St):Prop where
 bad:a.er≠0->a.t.k=1
 ok:a.Ok
theorem bU.er (h:bU a)(c:a.t.k≠1):a.er=0:=by
 by_cases b:a.er=0
 . exact b
 exact absurd (h.bad b) c
theorem bU.ad (h:bU a):bU a.ad:=by
 refine⟨λc=>?_,h.ok.ad⟩;unfold St.ad at c ⊢;split
 . rename_i b;rw[ag b] at c;exact absurd b c
 rename_i b;exact h.bad b
theorem bU.fail (h:bU a){e:Nat}(b:e<=11):bU (a.fail e a.t.a):=by refine⟨λ_=>?_,h.ok.fail b h.ok.bR⟩;unfold St.fail;split <;> rfl
theorem bU.ac (h:bU a)(k:Nat)(l:Xu):bU (a.ac k l):=by
 unfold St.ac;split
 . exact h.ad
 exact h.fail (by omega)
theorem bU.name (h:bU a):bU a.name:=by
 unfold St.name;split
 . exact h.ad
 exact h.fail (by omega)
theorem Inv.bd {p:Nat}(h:Inv p a):bU a:=⟨h.bad,h.ok⟩
theorem yP {l:Xu}(h:a.ej l=true):4<=a.t.k:=by unfold St.ej at h;simp only[Bool.and_eq_true,Bool.or_eq_true,beq_iff_eq] at h;omega
theorem kI (h:bU a)(b:a.t.k≠1):({ a with t:=zZ a.src a.t.t }:St)=a.ad:=by unfold St.ad;rw[ag (h.er b)]
def St.cP (a:St)(l:Xu):St:=if a.ej l=true then a.ad else a
theorem hY (S:Xs)(c:Nat)(a:St)(s:Xb)(l:Xu)(m:s.toList=l)(w:Xw)(g:bU a)(k:PL S w c a):xK 137 #[xP c,.string s] w λe f=>e=.returned (.bool (a.ej l))/\PL S f c (a.cP l)/\Fr (·=c) w f:=by
 have d:=za (fH S c a s l m w g.ok.tk k);clear m;cases b:a.ej l with
 | true => have h:a.cP l={ a with t:=zZ a.src a.t.t }:=(by unfold St.cP;rw[ag b,kI g (by have:=yP b;omega)]);have n:=za (yP b);rw[b] at d;clear b;go_enter func137,ntmps137;go_wp2_with (first|(go_at_call 73;refine d.o.mono ?_;rintro e f ⟨rfl,rfl⟩)|(go_at_call 190;refine (jV S c a _ g.ok (aJ (by decide) n.o) k).mono ?_;rintro e o ⟨rfl,j,i⟩));go_ret;exact⟨rfl,by rw[h];exact j,i⟩
 | false => have h:a.cP l=a:=(by unfold St.cP;rw[ae (by rw[b];simp)]);rw[b] at d;clear b;go_enter func137,ntmps137;go_wp2_with (go_at_call 73;refine d.o.mono ?_;rintro e f ⟨rfl,rfl⟩);go_ret;exact⟨rfl,by rw[h];exact k,Fr.refl _ _⟩
end
section
variable {l:Xu} {a:St}
def St.iv (a:St)(l:Xu):St:=if a.ej l=true then a.ad else a.fail 2 a.t.a
theorem fo (b:Tx a.src a.t)(c:(j5.any λx=>l==x)=false):a.iv l=a.ac 4 l:=by unfold St.iv St.ac;rw[fm b c]
theorem nI (b:Tx a.src a.t)(c:(j5.any λx=>l==x)=true):a.iv l=a.ac 5 l:=by unfold St.iv St.ac;rw[dw b c]
theorem zP (S:Xs)(f:Nat)(a:St)(s:Xb)(l:Xu)(o:s.toList=l)(w:Xw)(m:bU a)(k:PL S w f a):xK 134 #[xP f,.string s] w λe q=>e=.returned (xI a.t.a)/\PL S q f (a.iv l)/\Fr (·=f) w q:=by
 have g:=za (hY S f a s l o w m k);obtain⟨t,u,v,x,y,z,A⟩:=k.cells;clear o k m;cases c:a.ej l with
 | true => have h:a.iv l=a.cP l:=(by unfold St.iv St.cP;rw[ag c,ag c]);rw[c] at g;clear c;go_enter func134,ntmps134;go_wp2_with (go_at_call 137;refine g.o.mono ?_;rintro e r ⟨rfl,b,d⟩);go_ret;exact⟨rfl,by rw[h];exact b,d⟩
 | false => have h:a.iv l=a.fail 2 a.t.a:=(by unfold St.iv;rw[ae (by rw[c];simp)]);have n:a.cP l=a:=(by unfold St.cP;rw[ae (by rw[c];simp)]);rw[c,n] at g;clear c n;go_enter func134,ntmps134;go_wp2_with (first|(go_at_call 75;refine (li S f a 2 (by decide) _ b).mono ?_;rintro e B ⟨rfl,j,i⟩)|(go_at_call 137;refine g.o.mono ?_;rintro e r ⟨rfl,b,d⟩;have p:xC r 8 0 (.iface 399 (.pointer (some (S 2)))):=b.gl.e6));go_ret;exact⟨rfl,by rw[h];exact j,d.trans i⟩
theorem xi {fn:Func}{p:Tmp}(h:fn.results=#[.cell p 144]){c:Xa}{b:Nat}{w:Xw}(j:c[p]?.getD undef=xP b){d e:Xv}(i:xH w b #[d,e] 144):(results fn c).run prog w=.ok (.agg #[d,e]) w:=by obtain⟨f,g,_⟩:=zp i;simp[results,h,j,go_sem,f,g]
def gr (a:St):Value:=if a.t.k=2 then .agg #[.string a.t.s,xI a.t.a] else .agg #[.string ⟨#[]⟩,xI 0]
theorem gG (S:Xs)(h:Nat)(a:St)(w:Xw)(p:bU a)(i:PL S w h a):xK 135 #[xP h] w λe r=>e=.returned (gr a)/\PL S r h a.name/\Fr (·=h) w r:=by
 obtain⟨z,y,A,B,C,D,E⟩:=i.cells;have c:=i.lt;have k:¬w.heap.size=h:=by omega
 by_cases f:a.t.k=2
 . have g:ck a.t=3:=by simp[ck,f]
   have m:a.name={ a with t:=zZ a.src a.t.t }:=(by unfold St.name;rw[ag f,kI p (by omega)]);have n:aa (gr a=.agg #[.string a.t.s,xI a.t.a]):=(by unfold aa gr;rw[ag f]);have s:aa (cs a.src a.t=a.t.s):=(by unfold aa cs;simp[f]);rw[g] at y;clear g;go_enter func135,ntmps135;go_wp2_with (go_at_call 190;refine (jV S h a _ p.ok (Nat.le_of_eq f.symm) (i.alloc _)).mono ?_;rintro e o ⟨rfl,d,b⟩;have j:xH o w.heap.size #[.string ⟨#[]⟩,xI 0] 144:=(b.block _ (Nat.lt_of_lt_of_eq (cf _) (by simp)) k).trans (zc _ _);obtain⟨d0,d1,u,x⟩:=zp j;simp only[Tk.dX]);refine bodyPost_ret (v:=gr a) (by rw[n.o,<- s.o];exact xi rfl rfl ((Below.heap_alloc _ _ _ (ze (zh _ _ _ _ (zh _ _ _ _ j)))).trans (zh _ _ _ _ (zh _ _ _ _ j)))) rfl ⟨rfl,?_,?_⟩
   . rw[m];exact ((d.aU c _ _).aU c _ _).alloc _
   exact (((((Fr.refl _ w).alloc _).trans b).aO (an _) _ _).aO (an _) _ _).alloc _
 have g:((ck a.t:Int) != 3)=true:=by
  have:ck a.t≠3:=by unfold ck;(repeat' split) <;> first|decide|(exfalso;omega)
  simp;omega
 have m:a.name=a.fail 2 a.t.a:=by unfold St.name;rw[ae f]
 have n:aa (gr a=.agg #[.string ⟨#[]⟩,xI 0]):=by unfold aa gr;rw[ae f]
 have q:xC w 8 0 (.iface 399 (.pointer (some (S 2)))):=i.gl.e6;have F:8<w.heap.size:=dD (by decide) i.gl.size;go_enter func135,ntmps135;go_wp2_with (go_at_call 75;refine (li S h a 2 (by decide) _ (i.alloc _)).mono ?_;rintro e o ⟨rfl,d,b⟩;have j:xH o w.heap.size #[.string ⟨#[]⟩,xI 0] 144:=(b.block _ (Nat.lt_of_lt_of_eq (cf _) (by simp)) k).trans (zc _ _);obtain⟨d0,d1,u,x⟩:=zp j);refine bodyPost_ret (v:=gr a) (by rw[n.o];exact xi rfl rfl (zh _ _ _ _ (zh _ _ _ _ j))) rfl ⟨rfl,?_,?_⟩
 . rw[m];exact (d.aU c _ _).aU c _ _
 exact ((((Fr.refl _ w).alloc _).trans b).aO (an _) _ _).aO (an _) _ _
theorem kC (S:Xs)(c:Nat)(a:St)(k:Nat)(w:Xw)(b:PL S w c a):xK 242 #[xP c,xI k] w λe f=>e=.returned (xP w.heap.size)/\w.alloc (.cells #[xI k,xI a.t.a,.string ⟨#[]⟩,xI 0,xI 0,.slice none 0 0] 216 (0,0))=f:=by obtain⟨g,h,i,j,m,n,o⟩:=b.cells;have d:=b.lt;clear b;go_enter func242,ntmps242;go_wp2;go_ret;exact⟨rfl,rfl⟩
end
section
theorem sj (S:Xs)(k:Nat)(s:Xb)(a:gJ[k]?=some s)(w:Xw)(b:Gl S w):xK 196 #[xI k] w λe c=>e=.returned (.string s)/\w=c:=by
 have d:=b.words k s a;have g:k<24:=by
  rcases Nat.lt_or_ge k 24 with h|h
  . exact h
  rw[List.getElem?_eq_none (by simpa [gJ] using h)] at a;cases a
 have f:(0:Int)<=(k:Int)/\(k:Int)<24:=by omega
 go_enter func196,ntmps196;go_wp2;go_ret;exact⟨rfl,rfl⟩
def wd (k:Nat):ByteArray:=(gJ[k]?).getD ⟨#[]⟩
def dC (a:St):List Nat->Option Nat
 | []=>none
 | k::b=>if a.ej (wd k).toList=true then some k else dC a b
def fR:Option Nat->Value
 | some k=>.tuple #[xI k,.bool true]
 | none=>.tuple #[xI 0,.bool false]
theorem kF (S:Xs)(A:Nat)(c:St)(z:Nat)(n:Nat)(a:Xn)(J:n=a.length)(K:a.length<=100)(w:Xw)(m:∀(i k:Nat),a[i]?=some k->xC w z i (xI k))(h:∀k∈a,k<24)(F:c.t.k<=5)(D:PL S w A c):xK 289 #[xP A,xS z n n] w λe o=>e=.returned (fR (dC c a))/\w=o:=by
 subst J;have B:=za D;have t:=za m;have r:=za h;have u:=za F;clear D m h F;go_enter func289,ntmps289;go_wp2;go_loop [10] (λi=>∃j:Nat,j<=a.length/\i=xI j/\aa (dC c (a.drop j)=dC c a)) (λi=>a.length-(intOf i).toNat)
 case atStart=>exact⟨0,aE _,rfl,rfl⟩
 case round =>
  obtain⟨j,M,rfl,q⟩:=hrel;by_cases x:j<a.length
  . obtain⟨k,b⟩:∃k,a[j]?=some k:=⟨a[j],av x⟩;have L:xC w z j (xI k):=t.o j k b;have l:=r.o k (aM b);obtain⟨s,y⟩:∃s,gJ[k]?=some s:=⟨gJ[k]'(by simpa [gJ] using l),by rw[av]⟩;have G:wd k=s:=by unfold wd;rw[y];rfl
    have E:a.drop j=k::a.drop (j+1):=(by rw[aB] at b;obtain⟨H,I⟩:=b;rw[<- I];exact dE H);have C:=za (sj S k s y w B.o.gl);have p:=za (fH S A c s _ rfl w u.out B.o);have d:(if c.ej s.toList=true then some k else dC c (a.drop (j+1)))=dC c a:=(by rw[<- q.o,E,<- G];rfl);clear q E G y b;cases f:c.ej s.toList with
    | true => rw[f,ag rfl] at d;rw[f] at p;have g:=za d;clear f d;go_wp2_with (first|(go_at_call 196;refine C.o.mono ?_;rintro e o ⟨rfl,rfl⟩)|(go_at_call 73;refine p.o.mono ?_;rintro e o ⟨rfl,rfl⟩));refine bodyPost_ret (v:=fR (some k)) (by simp[results,results289,go_sem,fR]) rfl ⟨by rw[<- g.o],rfl⟩
    | false =>
      rw[f,ae (by simp)] at d;rw[f] at p;have g:=za d;clear f d;go_wp2_with (first|(go_at_call 196;refine C.o.mono ?_;rintro e o ⟨rfl,rfl⟩)|(go_at_call 73;refine p.o.mono ?_;rintro e o ⟨rfl,rfl⟩));go_round
      case rel=>exact⟨j+1,by omega,by go_num,g⟩
      case measure=>simp[intOf];omega
  have d:dC c a=none:=by rw[<- q.o,List.drop_of_length_le (by omega)];rfl
  have g:=za d;clear q d;go_wp2;refine bodyPost_ret (v:=fR none) (by simp[results,results289,go_sem,fR]) rfl ⟨by rw[g.o],rfl⟩
end
section
variable {L:List Ex} {B x:Nat} {v:Xv} {w j:Xw}
def aF (l:Xu)(n:Nat):Nat :=
 if l=[110,117,109,98,101,114] then 0 else if l=[98,111,111,108] then (if n=1 then 1 else 2) else if l=[118,97,114] then 3 else if l=[99,97,108,108] then 4
 else if l=[105,102] then 5 else if l=[109,101,114,103,101] then 6 else if l=[119,104,101,110] then 7 else if l=[119,104,101,110,111,116] then 8 else if l=[102,98,121] then 9
 else if l=[110,101,103] then 10 else if l=[110,111,116] then 11 else if l=[97,110,100] then 12 else if l=[111,114] then 13 else if l=[120,111,114] then 14
 else if l=[61] then 15 else if l=[60,62] then 16 else if l=[60] then 17 else if l=[60,61] then 18 else if l=[43] then 19 else if l=[45] then 20 else if l=[42] then 21 else if l=[47] then 22 else 23
def df (l:Xu)(n:Nat):Nat:=if l=[110,117,109,98,101,114] then n else 0
theorem jY (l:Xu):df l 0=0:=by unfold df;split <;> rfl
inductive TR (w:Xw) (B:Nat) (L:List Ex):Nat->Value->Prop
 | mk (x:Nat) (ex:Ex) (b:Nat) (args:Xv) (vs:Xm) (hx:L[x]?=some ex) (hB:B<=b)
    (hb:xH w b #[xI (aF ex.op.toList ex.n:Nat),xI ex.a,.string ex.s,xI ex.nm,xI (df ex.op.toList ex.n:Nat),args] 216)
    (ha:w.ownsRow B 159 1 args vs.length vs) (hl:vs.length=ex.ah.length)
    (hr:∀(i y:Nat) (v:Xv),ex.ah[i]?=some y->vs[i]?=some v->TR w B L y v):TR w B L x (xP b)
theorem TR.kept (h:TR w B L x v)(g:∀k,B<=k->k<w.heap.size->j.heap[k]?=w.heap[k]?):TR j B L x v:=by
 induction h with
 | mk x i b d p n e f l m _ o => exact TR.mk x i b d p n e ((g b e (ze f)).trans f) (zi l (λk a c _=>g k a c)) m o
theorem TR.fr (h:TR w B L x v){T:Xj}(d:Fr T w j)(c:∀k,B<=k->k<w.heap.size->¬T k):TR j B L x v :=
 h.kept (λk a b=>d.block k b (c k a b))
theorem TR.more (h:TR w B L x v)(E:List Ex):TR w B (L++E) x v:=by
 induction h with
 | mk x d b a l c e g f i _ k =>
   refine TR.mk x d b a l ?_ e g f i k;rw[e9]
   . exact c
   exact (aB.1 c).1
theorem TR.down (h:TR w B L x v){d:Nat}(c:d<=B):TR w d L x v:=by
 induction h with
 | mk x e b a n l f i g k _ m => exact TR.mk x e b a n l (aJ c f) i (zR g c) k m
def ef (S:Xs)(c B:Nat)(w:Xw)(b:St)(r:Nat)(e:Ending)(j:Xw):Prop :=
 ∃a:Xp,e=.returned (.pointer a)/\PL S j c b/\aa (b.er=0->TR j B b.L r (.pointer a))/\Fr (·=c) w j
def zX (d:Nat)(f:FuncId)(M:Fn):Prop:=∀(S:Xs) (b:Nat) (a:St) (p:Nat) (w:Xw),Inv p a->18<=a.op+d->PL S w b a ->
 xK f #[xP b] w (ef S b w.heap.size w (M a).1 (M a).2)
theorem PL.put {S:Xs}{a:Nat}{b:St}(h:PL S w a b)(e:Ex):PL S w a (b.put e).1:=⟨h.tx,h.heap,h.gl,h.pb⟩
theorem TR.two {a:Ex}{b g y z:Nat}{u:Xv}(h:B<=b)(l:B<=g)
 (k:xH w b #[xI (aF a.op.toList a.n:Nat),xI a.a,.string a.s,xI a.nm,xI (df a.op.toList a.n:Nat),xS g 2 2] 216)
 (e:xH w g #[u,v] 159) (f:a.ah=[y,z]) (m:TR w B L y u) (n:TR w B L z v):TR w B (L++[a]) L.length (xP b):=by
 refine TR.mk L.length a b _ [u,v] (by simp) h k ⟨by simp,ap ⟨g,2,#[u,v],rfl,l,e,by simp,by decide,by simp,by simp⟩⟩ (by simp[f]) ?_;intro i s t c d;rw[f] at c
 match i with
 | 0=>simp at c d;subst c d;exact m.more _
 | 1=>simp at c d;subst c d;exact n.more _
 | i+2=>simp at c
end
section
variable {l:Xu} {a b e k:Nat} {w:Xw}
theorem so:(⟨#[58]⟩:Xb).toList=[58]:=by decide +kernel
theorem pH:(⟨#[59]⟩:Xb).toList=[59]:=by decide +kernel
theorem r9:(⟨#[98,111,111,108]⟩:Xb).toList=cD:=by decide +kernel
theorem yJ:(⟨#[105,110,116]⟩:Xb).toList=jo:=by decide +kernel
theorem yL:(⟨#[110,111,116]⟩:Xb).toList=eL:=by decide +kernel
theorem yS:(⟨#[111,110]⟩:Xb).toList=cF:=by decide +kernel
theorem ph (w:Xw):xK 140 #[xI 1] w λe c=>e=.returned (.string ⟨#[98,111,111,108]⟩)/\w=c:=by go_enter func140,ntmps140;go_wp2;go_ret;exact⟨rfl,rfl⟩
theorem rU (w:Xw):xK 140 #[xI 0] w λe c=>e=.returned (.string ⟨#[105,110,116]⟩)/\w=c:=by go_enter func140,ntmps140;go_wp2;go_ret;exact⟨rfl,rfl⟩
theorem jk (c:St):∃(f:Xb) (d:Nat),gr c=.agg #[.string f,xI d]/\(c.t.k=2->f=c.t.s/\d=c.t.a):=by
 by_cases h:c.t.k=2
 . exact⟨c.t.s,c.t.a,by unfold gr;rw[ag h],λ_=>⟨rfl,rfl⟩⟩
 exact⟨⟨#[]⟩,0,by unfold gr;rw[ae h];rfl,λg=>absurd g h⟩
theorem St.sO (s:St){d c:Nat}(f:e≠0):(s.fail e a).fail d c=s.fail e a:=by unfold St.fail;by_cases h:s.er=0 <;> simp[h,f]
theorem St.mR (s:St)(d:k≠1):(s.fail e a).is k l=false:=by
 unfold St.is;have:(s.fail e a).t.k=1:=by unfold St.fail;split <;> rfl
 rw[this];have c:((1:Nat)==k)=false:=by simp;omega
 rw[c];rfl
theorem St.p9 (s:St)(c:e≠0)(d:k≠1):(s.fail e a).ac k l=s.fail e a:=by unfold St.ac;rw[St.mR s d];exact St.sO s c
theorem St.sP (s:St)(c:e≠0):(s.fail e a).name=s.fail e a:=by
 unfold St.name;have:(s.fail e a).t.k=1:=by unfold St.fail;split <;> rfl
 rw[ae (by omega)];exact St.sO s c
def St.bG (c:St)(n:Nat):St:=if n=16 then c.fail 2 c.t.a else c
def pI (d:Xb)(c j i h:Nat)(g:Xb)(f:Nat):Value:=.agg #[.string d,xI c,xI j,xI i,xI h,.string g,xI f]
theorem rn {fn:Func}{p:Tmp}(h:fn.results=#[.cell p 156]){c:Xa}(y:c[p]?.getD undef=xP b){d f g i j m n:Xv}(x:xH w b #[d,f,g,i,j,m,n] 156):(results fn c).run prog w=.ok (.agg #[d,f,g,i,j,m,n]) w:=by obtain⟨o,q,r,s,t,u,v,_⟩:=eK x;simp[results,h,y,go_sem,o,q,r,s,t,u,v]
theorem rF {e:Xy}{B s r p o m j:Xv}(h:xH w b #[B,s,r,p,o,m,j] e)(c d f g i n q:Xv):(((((((w.setCell (xD b 0) c).setCell (xD b 1) d).setCell (xD b 2) f).setCell (xD b 3) g).setCell (xD b 4) i).setCell (xD b 5) n).setCell (xD b 6) q).heap[b]?=some (.cells #[c,d,f,g,i,n,q] e (0,0)):=by have t:xH (w.setCell (xD b 0) c) b #[c,s,r,p,o,m,j] e:=zh _ _ _ _ h;have u:((w.setCell (xD b 0) c).setCell (xD b 1) d).heap[b]?=some (.cells #[c,d,r,p,o,m,j] e (0,0)):=zh _ _ _ _ t;have v:(((w.setCell (xD b 0) c).setCell (xD b 1) d).setCell (xD b 2) f).heap[b]?=some (.cells #[c,d,f,p,o,m,j] e (0,0)):=zh _ _ _ _ u;have x:((((w.setCell (xD b 0) c).setCell (xD b 1) d).setCell (xD b 2) f).setCell (xD b 3) g).heap[b]?=some (.cells #[c,d,f,g,o,m,j] e (0,0)):=zh _ _ _ _ v;have y:(((((w.setCell (xD b 0) c).setCell (xD b 1) d).setCell (xD b 2) f).setCell (xD b 3) g).setCell (xD b 4) i).heap[b]?=some (.cells #[c,d,f,g,i,m,j] e (0,0)):=zh _ _ _ _ x;have z:((((((w.setCell (xD b 0) c).setCell (xD b 1) d).setCell (xD b 2) f).setCell (xD b 3) g).setCell (xD b 4) i).setCell (xD b 5) n).heap[b]?=some (.cells #[c,d,f,g,i,n,j] e (0,0)):=zh _ _ _ _ y;have A:(((((((w.setCell (xD b 0) c).setCell (xD b 1) d).setCell (xD b 2) f).setCell (xD b 3) g).setCell (xD b 4) i).setCell (xD b 5) n).setCell (xD b 6) q).heap[b]?=some (.cells #[c,d,f,g,i,n,q] e (0,0)):=zh _ _ _ _ z;exact A
theorem HR (S:Xs)(j:Nat)(g:St)(w:Xw)(nb:Nat)(x:Xp)(n c:Nat)(cn:bU g)(_hn:n<=100)(eb:nb<w.heap.size)(er:xC w nb 2 (.slice x n c))(a5:PL S w j g) :
 xK 191 #[xP j,xP nb] w λe w'=>∃O N,e=.returned (pI O N (if ((g.bG n).name.ac 4 [58]).is 5 cD=true then 1 else 0) 0 0 ⟨#[]⟩ 0)/\((g.bG n).t.k=2->O=(g.bG n).t.s/\N=(g.bG n).t.a)/\PL S w' j (z9 ((g.bG n).name.ac 4 [58]))/\Fr (·=j) w w':=by
 have a4:=a5.lt;have c9:xC w 8 0 (.iface 399 (.pointer (some (S 2)))):=a5.gl.e6;have ds:8<w.heap.size:=dD (by decide) a5.gl.size;have a3:w.heap.size<(w.alloc (.cells #[.string ⟨#[]⟩,xI 0,xI 0,xI 0,xI 0,.string ⟨#[]⟩,xI 0] 156)).heap.size:=by simp
 have a2:=zc w (.cells #[.string ⟨#[]⟩,xI 0,xI 0,xI 0,xI 0,.string ⟨#[]⟩,xI 0] 156);by_cases Z:n=16
 . have c3:g.bG n=g.fail 2 g.t.a:=by unfold St.bG;rw[ag Z]
   rw[c3];have c2:((n:Int)==16)=true:=beq_iff_eq.2 (by omega);have cs:=za (cn.fail (e:=2) (by omega));obtain⟨m,y⟩:∃m,(g.fail 2 g.t.a).name.ac 4 [58]=m:=⟨_,rfl⟩;have c4:m=g.fail 2 g.t.a:=(by rw[<- y,St.sP _ (by decide)];exact St.p9 _ (by decide) (by decide));have M:m.is 5 cD=false:=(by rw[c4];exact St.mR _ (by decide));rw[y];have J:z9 m=m.ac 5 jo:=(by unfold z9;rw[ae (by rw[M];simp)]);rw[J,M];clear c4 J c3 Z;go_enter func191,ntmps191;go_wp2_with (go_at_call 75;refine (li S j g 2 (by decide) _ (a5.alloc _)).mono ?_;rintro e eq ⟨rfl,c0,cv⟩;have c5:=c0.lt);have c1:=(cv.block w.heap.size a3 (by omega)).trans a2;obtain⟨O,N,H,T⟩:=jk (g.fail 2 g.t.a);have R:=za (gG S j (g.fail 2 g.t.a) eq cs.o c0);rw[H] at R;refine R.o.mono ?_;rintro e p ⟨rfl,r,t⟩;have o:¬w.heap.size=j:=(by omega);have E:=(t.block w.heap.size (ze c1) o).trans c1;have Y:=ze E;have P:aa (Fr (·=j) w p):=Fr.trans (((Fr.refl _ w).alloc _).trans cv) t;have V:=r.lt;have A:=za cs.o.name;have B:=za (zP S j (g.fail 2 g.t.a).name ⟨#[58]⟩ _ so (p.alloc (.cells #[.string O,xI N,xI 0,xI 0,xI 0,.string ⟨#[]⟩,xI 0] 156)) A.o (r.alloc _));rw[fo r.tx (by decide),y] at B;have K:aa (bU m):=(by unfold aa;rw[<- y];exact A.o.ac 4 [58]);clear t H R;go_wp2_with fail;refine B.o.mono ?_;rintro e ar ⟨rfl,d,i⟩;have f:¬p.heap.size=j:=(by omega);have F:=(i.block w.heap.size (by simp;omega) o).trans ((Below.heap_alloc _ _ _ Y).trans E);have G:=(i.block p.heap.size (by simp) f).trans (zc p _);have Q:aa (Fr (·=j) w ar):=(P.o.alloc _).trans i;have ak:=d.lt;have s:=za (hY S j m ⟨#[98,111,111,108]⟩ _ r9 ar K.o d);rw[dw d.tx (by decide),M] at s;have I:m.cP cD=m:=(by unfold St.cP;rw[dw d.tx (by decide),M];rfl);rw[I] at s;clear i I;have C:=za (λp h=>zP S j m ⟨#[105,110,116]⟩ _ yJ p K.o h);have W:=d.tx;rw[nI W (by decide)] at C;clear W;go_wp2_with (first|(go_at_call 140;first|(with_reducible refine (ph _).mono ?_;rintro e w' ⟨rfl,rfl⟩)|(with_reducible refine (rU _).mono ?_;rintro e w' ⟨rfl,rfl⟩))|(go_at_call 137;refine s.o.mono ?_;rintro e dn ⟨rfl,D,q⟩;have u:=(q.block w.heap.size (ze F) o).trans F;have z:=(q.block p.heap.size (ze G) f).trans G;obtain⟨a9,be,bk,bl,bp,bs,bt,bx,bE⟩:=eK u;obtain⟨b0,b1,b2,b3,b4,bL,ca,ck,cm⟩:=eK z;have al:=D.lt));refine (C.o _ D).mono ?_;rintro e em ⟨rfl,a0,L⟩;have U:=(L.block w.heap.size (ze u) o).trans u;have X:=(L.block p.heap.size (ze z) f).trans z;clear a9 be bk bl bp bs bt bx bE b0 b1 b2 b3 b4 bL ca ck cm;obtain⟨a9,be,bk,bl,bp,bs,bt,bx,bE⟩:=eK U;obtain⟨b0,b1,b2,b3,b4,bL,ca,ck,cm⟩:=eK X;clear X;go_wp2_with fail;refine bodyPost_ret (v:=pI O N 0 0 0 ⟨#[]⟩ 0) (rn rfl rfl (rF U _ _ _ _ _ _ _)) rfl ⟨O,N,by first|rfl|(rw[M];rfl),T,?_,?_⟩
   . (repeat (with_reducible refine PL.aU ?_ a4 _ _));exact a0
   (repeat (with_reducible refine Fr.aO ?_ (an _) _ _));exact (Q.o.trans q).trans L
 have c3:g.bG n=g:=by unfold St.bG;rw[ae Z]
 rw[c3];have c2:((n:Int)==16)=false:=bf.2 (by omega);obtain⟨m,y⟩:∃m,g.name.ac 4 [58]=m:=⟨_,rfl⟩;rw[y];clear Z c3;cases M:m.is 5 cD with
 | true =>
   have J:z9 m=m.ad:=(by unfold z9;rw[ag M]);rw[J];clear J;go_enter func191,ntmps191;go_wp2_with fail;obtain⟨O,N,H,T⟩:=jk g;have R:=za (gG S j g (w.alloc (.cells #[.string ⟨#[]⟩,xI 0,xI 0,xI 0,xI 0,.string ⟨#[]⟩,xI 0] 156)) cn (a5.alloc _));rw[H] at R;refine R.o.mono ?_;rintro e p ⟨rfl,r,t⟩;have o:¬w.heap.size=j:=(by omega);have E:=(t.block w.heap.size a3 o).trans a2;have Y:=ze E;have P:aa (Fr (·=j) w p):=Fr.trans ((Fr.refl _ w).alloc _) t;have V:=r.lt;have A:=za cn.name;have B:=za (zP S j g.name ⟨#[58]⟩ _ so (p.alloc (.cells #[.string O,xI N,xI 0,xI 0,xI 0,.string ⟨#[]⟩,xI 0] 156)) A.o (r.alloc _));rw[fo r.tx (by decide),y] at B;have K:aa (bU m):=(by unfold aa;rw[<- y];exact A.o.ac 4 [58]);clear t H R;go_wp2_with fail;refine B.o.mono ?_;rintro e ar ⟨rfl,d,i⟩;have f:¬p.heap.size=j:=(by omega);have F:=(i.block w.heap.size (by simp;omega) o).trans ((Below.heap_alloc _ _ _ Y).trans E);have G:=(i.block p.heap.size (by simp) f).trans (zc p _);have Q:aa (Fr (·=j) w ar):=(P.o.alloc _).trans i;have ak:=d.lt;have s:=za (hY S j m ⟨#[98,111,111,108]⟩ _ r9 ar K.o d);rw[dw d.tx (by decide),M] at s;have I:m.cP cD=m.ad:=(by unfold St.cP;rw[dw d.tx (by decide),M];rfl);rw[I] at s;clear i I;go_wp2_with (first|(go_at_call 140;refine (ph _).mono ?_;rintro e w' ⟨rfl,rfl⟩)|(go_at_call 137;refine s.o.mono ?_;rintro e dn ⟨rfl,D,q⟩;have u:=(q.block w.heap.size (ze F) o).trans F;have z:=(q.block p.heap.size (ze G) f).trans G;obtain⟨a9,be,bk,bl,bp,bs,bt,bx,bE⟩:=eK u;obtain⟨b0,b1,b2,b3,b4,bL,ca,ck,cm⟩:=eK z;have al:=D.lt));refine bodyPost_ret (v:=pI O N 1 0 0 ⟨#[]⟩ 0) (rn rfl rfl (rF (zr (by omega) u) _ _ _ _ _ _ _)) rfl ⟨O,N,by first|rfl|(rw[M];rfl),T,?_,?_⟩
   . (repeat (with_reducible refine PL.aU ?_ a4 _ _));exact D.aU V _ _
   (repeat (with_reducible refine Fr.aO ?_ (an _) _ _));exact (Q.o.trans q).aO (by omega) _ _
 | false =>
   have J:z9 m=m.ac 5 jo:=(by unfold z9;rw[ae (by rw[M];simp)]);rw[J];clear J;go_enter func191,ntmps191;go_wp2_with fail;obtain⟨O,N,H,T⟩:=jk g;have R:=za (gG S j g (w.alloc (.cells #[.string ⟨#[]⟩,xI 0,xI 0,xI 0,xI 0,.string ⟨#[]⟩,xI 0] 156)) cn (a5.alloc _));rw[H] at R;refine R.o.mono ?_;rintro e p ⟨rfl,r,t⟩;have o:¬w.heap.size=j:=(by omega);have E:=(t.block w.heap.size a3 o).trans a2;have Y:=ze E;have P:aa (Fr (·=j) w p):=Fr.trans ((Fr.refl _ w).alloc _) t;have V:=r.lt;have A:=za cn.name;have B:=za (zP S j g.name ⟨#[58]⟩ _ so (p.alloc (.cells #[.string O,xI N,xI 0,xI 0,xI 0,.string ⟨#[]⟩,xI 0] 156)) A.o (r.alloc _));rw[fo r.tx (by decide),y] at B;have K:aa (bU m):=(by unfold aa;rw[<- y];exact A.o.ac 4 [58]);clear t H R;go_wp2_with fail;refine B.o.mono ?_;rintro e ar ⟨rfl,d,i⟩;have f:¬p.heap.size=j:=(by omega);have F:=(i.block w.heap.size (by simp;omega) o).trans ((Below.heap_alloc _ _ _ Y).trans E);have G:=(i.block p.heap.size (by simp) f).trans (zc p _);have Q:aa (Fr (·=j) w ar):=(P.o.alloc _).trans i;have ak:=d.lt;have s:=za (hY S j m ⟨#[98,111,111,108]⟩ _ r9 ar K.o d);rw[dw d.tx (by decide),M] at s;have I:m.cP cD=m:=(by unfold St.cP;rw[dw d.tx (by decide),M];rfl);rw[I] at s;clear i I;have C:=za (λp h=>zP S j m ⟨#[105,110,116]⟩ _ yJ p K.o h);have W:=d.tx;rw[nI W (by decide)] at C;clear W;go_wp2_with (first|(go_at_call 140;first|(with_reducible refine (ph _).mono ?_;rintro e w' ⟨rfl,rfl⟩)|(with_reducible refine (rU _).mono ?_;rintro e w' ⟨rfl,rfl⟩))|(go_at_call 137;refine s.o.mono ?_;rintro e dn ⟨rfl,D,q⟩;have u:=(q.block w.heap.size (ze F) o).trans F;have z:=(q.block p.heap.size (ze G) f).trans G;obtain⟨a9,be,bk,bl,bp,bs,bt,bx,bE⟩:=eK u;obtain⟨b0,b1,b2,b3,b4,bL,ca,ck,cm⟩:=eK z;have al:=D.lt));refine (C.o _ D).mono ?_;rintro e em ⟨rfl,a0,L⟩;have U:=(L.block w.heap.size (ze u) o).trans u;have X:=(L.block p.heap.size (ze z) f).trans z;clear a9 be bk bl bp bs bt bx bE b0 b1 b2 b3 b4 bL ca ck cm;obtain⟨a9,be,bk,bl,bp,bs,bt,bx,bE⟩:=eK U;obtain⟨b0,b1,b2,b3,b4,bL,ca,ck,cm⟩:=eK X;clear X;go_wp2_with fail;refine bodyPost_ret (v:=pI O N 0 0 0 ⟨#[]⟩ 0) (rn rfl rfl (rF U _ _ _ _ _ _ _)) rfl ⟨O,N,by first|rfl|(rw[M];rfl),T,?_,?_⟩
   . (repeat (with_reducible refine PL.aU ?_ a4 _ _));exact a0
   (repeat (with_reducible refine Fr.aO ?_ (an _) _ _));exact (Q.o.trans q).trans L
end
section
theorem HS (k:Int)(s:Xb)(a n:Int)(w:Xw):(Instr.field 66 (.agg #[xI k,.string s,xI a,xI n]) 2).run prog w=.ok (xI a) w:=by kernel_rfl
theorem xt {fn:Func}{p:Tmp}(h:fn.results=#[.cell p 154]){a:Xa}{b:Nat}{w:Xw}(m:a[p]?.getD undef=xP b){c d e f:Xv}(l:xH w b #[c,d,e,f] 154):(results fn a).run prog w=.ok (.agg #[c,d,e,f]) w:=by obtain⟨g,i,j,k,_⟩:=zU l;simp[results,h,m,go_sem,g,i,j,k]
theorem KE (S:Xs)(d:Nat)(l:St)(w:Xw)(N:bU l)(Z:l.t.k=5)(O:PL S w d l) :
 xK 192 #[xP d] w λe w'=>∃(u:Xb) (t:Nat),e=.returned (.agg #[xI (if l.ad.is 5 eL=true then 2 else 1),xI l.t.a,.string u,xI t])/\((aS l.ad).t.k=2->u=(aS l.ad).t.s/\t=(aS l.ad).t.a)/\PL S w' d (aS l.ad).name/\Fr (·=d) w w':=by
 have L:=O.lt;have m:¬w.heap.size=d:=by omega
 have a4:=HS;have P:=za (kI N (by omega:l.t.k≠1));have n:=za N.ad;obtain⟨f,M⟩:∃f,l.ad=f:=⟨_,rfl⟩;rw[M] at P n;rw[M];cases H:f.is 5 eL with
 | true =>
   have X:aS f=f.ad:=(by unfold aS;rw[ag H]);rw[X];obtain⟨u,t,D,C⟩:=jk f.ad;have J:=za (λg h=>gG S d f.ad g n.o.ad h);rw[D] at J;go_enter func192,ntmps192;go_wp2_with fail;refine (jV S d l _ N.ok (by rw[Z];decide) (O.alloc _)).mono ?_;rintro e g ⟨rfl,a,s⟩;rw[P.o] at a;have p:=(s.block w.heap.size (by simp) m).trans (zc w _);have G:=ze p;have b:=a.lt;have c:¬g.heap.size=d:=(by omega);have x:aa (Fr (·=d) w g):=((Fr.refl _ w).alloc _).trans s;have o:=za (λI h=>hY S d f ⟨#[110,111,116]⟩ _ yL I n.o h);have F:f.cP eL=f.ad:=(by unfold St.cP;rw[dw a.tx (by decide),H];rfl);rw[dw a.tx (by decide),H,F] at o;simp only[Tk.dX];go_wp2_with (go_at_call 137;refine (o.o _ (a.alloc _)).mono ?_;rintro e I ⟨rfl,A,j⟩;have q:=(j.block w.heap.size (by rw[au];omega) m).trans ((Below.heap_alloc _ _ _ G).trans p);have i:=(j.block g.heap.size (by rw[au];omega) c).trans (zc g _);obtain⟨Q,R,T,U,V,W⟩:=zU i;have y:=za ((x.o.alloc _).trans j));have K:=zh I g.heap.size 0 (xI 2) i;refine (J.o _ (A.aU b _ _)).mono ?_;rintro e Y ⟨rfl,B,k⟩;have r:=(k.block w.heap.size (by simp[World.setCell];exact ze q) m).trans (zr (by omega) q);have E:=(k.block g.heap.size (by simp[World.setCell];exact ze i) c).trans K;have z:aa (Fr (·=d) w Y):=(y.o.aO (by omega) _ _).trans k;obtain⟨Q,R,T,U,V,W⟩:=zU E;obtain⟨a0,ak,a2,a3,al,ar⟩:=zU r;go_wp2_with fail;refine bodyPost_ret (v:=.agg #[xI 2,xI l.t.a,.string u,xI t]) (xt rfl rfl (kB (zr (by omega) (zr (by omega) r)) _ _ _ _)) rfl ⟨u,t,rfl,C,?_,?_⟩
   . (repeat (with_reducible refine PL.aU ?_ L _ _));exact (B.aU b _ _).aU b _ _
   (repeat (with_reducible refine Fr.aO ?_ (an _) _ _));exact (z.o.aO (by omega) _ _).aO (by omega) _ _
 | false =>
   have X:aS f=f:=(by unfold aS;rw[ae (by rw[H];simp)]);rw[X];obtain⟨u,t,D,C⟩:=jk f;have J:=za (λg h=>gG S d f g n.o h);rw[D] at J;go_enter func192,ntmps192;go_wp2_with fail;refine (jV S d l _ N.ok (by rw[Z];decide) (O.alloc _)).mono ?_;rintro e g ⟨rfl,a,s⟩;rw[P.o] at a;have p:=(s.block w.heap.size (by simp) m).trans (zc w _);have G:=ze p;have b:=a.lt;have c:¬g.heap.size=d:=(by omega);have x:aa (Fr (·=d) w g):=((Fr.refl _ w).alloc _).trans s;have o:=za (λI h=>hY S d f ⟨#[110,111,116]⟩ _ yL I n.o h);have F:f.cP eL=f:=(by unfold St.cP;rw[dw a.tx (by decide),H];rfl);rw[dw a.tx (by decide),H,F] at o;simp only[Tk.dX];go_wp2_with (go_at_call 137;refine (o.o _ (a.alloc _)).mono ?_;rintro e I ⟨rfl,A,j⟩;have q:=(j.block w.heap.size (by rw[au];omega) m).trans ((Below.heap_alloc _ _ _ G).trans p);have i:=(j.block g.heap.size (by rw[au];omega) c).trans (zc g _);obtain⟨Q,R,T,U,V,W⟩:=zU i;have y:=za ((x.o.alloc _).trans j));refine (J.o _ A).mono ?_;rintro e Y ⟨rfl,B,k⟩;have r:=(k.block w.heap.size (ze q) m).trans q;have E:=(k.block g.heap.size (ze i) c).trans i;have z:aa (Fr (·=d) w Y):=y.o.trans k;obtain⟨Q,R,T,U,V,W⟩:=zU E;obtain⟨a0,ak,a2,a3,al,ar⟩:=zU r;go_wp2_with fail;refine bodyPost_ret (v:=.agg #[xI 1,xI l.t.a,.string u,xI t]) (xt rfl rfl (kB (zr (by omega) (zr (by omega) r)) _ _ _ _)) rfl ⟨u,t,rfl,C,?_,?_⟩
   . (repeat (with_reducible refine PL.aU ?_ L _ _));exact (B.aU b _ _).aU b _ _
   (repeat (with_reducible refine Fr.aO ?_ (an _) _ _));exact (z.o.aO (by omega) _ _).aO (by omega) _ _
theorem xA {d:Nat}{f:FuncId}{part:Fn}(q:zH f)(O:zX d f part)(M:zv d part)(S:Xs)(c:Nat)(b:St)(p:Nat)(w:Xw)(a:Xp)(x k B:Nat)(t:Inv p b)(Q:18<=b.op+d)(R:4<=b.t.k)(al:aF b.t.s.toList 0=k)(n:PL S w c b)(ak:B<=w.heap.size)(ar:c<B)(P:b.er=0->TR w B b.L x (.pointer a)) :
 xK 290 #[xP c,.pointer a,xI k,.func (.func f) #[xP c] #[]] w (ef S c B w ((part b.ad).1.put ⟨b.t.s,b.t.a,0,[x,(part b.ad).2],sE,0⟩).1 ((part b.ad).1.put ⟨b.t.s,b.t.a,0,[x,(part b.ad).2],sE,0⟩).2):=by
 have G:=t.bd.er (by omega);have C:=ai.gj t G (by omega);have Z:=M b.ad (p+1) C.af (by rw[St.bQ];exact Q);have T:=za t.bd;have V:=za (P G);have U:=za (λK D=>O S c b.ad (p+1) K C.af (by rw[St.bQ];exact Q) D);have X:=za (kI t.bd (by omega:b.t.k≠1));obtain⟨a4,a5,a9,be,bk,bl,bp⟩:=n.cells;have I:=n.lt;have a3:=n.frozen;have W:aa (zH f):=q;unfold zH at q;clear O M P G C;go_enter func290,ntmps290;go_wp2_with (first|(go_at_call 242;refine (kC S c b k _ n).mono ?_;rintro e w' ⟨rfl,rfl⟩)|(go_at_call 190;refine (jV S c b _ T.o.ok (aJ (by decide) R) (n.alloc _)).mono ?_;rintro e K ⟨rfl,m,j⟩;rw[X.o] at m));have s:¬w.heap.size=c:=by omega
 have l:=(j.block w.heap.size (Nat.lt_of_lt_of_eq (cf _) (by simp)) s).trans (zc w _);have J:w.heap.size<K.heap.size:=ze l;refine (U.o _ m).mono ?_;rintro e i ⟨L,rfl,A,F,h⟩;have o:=(h.block w.heap.size J s).trans l;obtain⟨d0,d1,d2,d3,d4,d5,a2,Y⟩:=zt o;have a0:=h.size;clear l;go_wp2_with fail;go_ret;refine⟨some (xD w.heap.size 0),rfl,((A.aU I _ _).alloc _).put _,?_,((((((Fr.refl _ w).alloc _).trans j).trans h).aO (an _) _ _).alloc _)⟩;intro H;obtain⟨E,N⟩:=Z.L;have t2:=F.out H;rw[St.bu] at N;have r:(i.setCell (xD w.heap.size 5) (xS i.heap.size 2 2)).heap.size=i.heap.size:=by simp[World.setCell]
 refine TR.two (y:=x) (z:=(part b.ad).2) (g:=i.heap.size) (u:=.pointer a) (v:=.pointer L) ak (by omega) ?_ ?_ rfl ?_ ?_
 . show _=some (Obj.cells #[xI (aF b.t.s.toList 0:Nat),xI b.t.a,.string ⟨#[]⟩,xI (0:Nat),xI (df b.t.s.toList 0:Nat),xS i.heap.size 2 2] 216 (0,0));rw[al,jY];exact (Below.heap_alloc _ _ _ (by rw[r];exact Y)).trans (zh _ _ _ _ o)
 . have:=zc (i.setCell (xD w.heap.size 5) (xS i.heap.size 2 2)) (.cells #[.pointer a,.pointer L] 159);rw[r] at this;exact this
 . rw[N];exact (V.o.fr ((((((Fr.refl (·=c) w).alloc _).trans j).trans h).aO (an _) _ _).alloc _) (λk D _ h2=>by omega)).more E
 exact (t2.fr (((Fr.refl (·=w.heap.size) i).aY _ _).alloc _) (λk D _ h2=>by omega)).down (by omega)
end
section
variable {l:Xu} {a:St}
def nU (c:Nat)(b:Xn):Prop:=∀a:St,a.t.k<=5->dC a b=if et a.t c=true then some (aF a.t.s.toList 0) else none
theorem K5 (b:a.t.k≠4)(c:a.t.k≠5):a.ej l=false:=by unfold St.ej;simp[b,c]
theorem nQ (h:a.t.k=4∨a.t.k=5):a.ej l=(a.t.s.toList==l):=by unfold St.ej;rcases h with h|h <;> simp[h]
theorem nM (c:a.t.k≠4)(d:a.t.k≠5):∀b,dC a b=none:=by
 intro b;induction b with
 | nil=>rfl
 | cons k b e=>show (if a.ej (wd k).toList=true then some k else dC a b)=none;rw[K5 c d,e];rfl
theorem ku:(wd 7).toList=[119,104,101,110]/\(wd 8).toList=[119,104,101,110,111,116]/\(wd 10).toList=[45]/\(wd 11).toList=[110,111,116]/\(wd 12).toList=[97,110,100]/\(wd 13).toList=[111,114]/\(wd 14).toList=[120,111,114]/\(wd 15).toList=[61]/\(wd 16).toList=[60,62]/\(wd 17).toList=[60]/\(wd 18).toList=[60,61]/\(wd 19).toList=[43]/\(wd 20).toList=[45]/\(wd 21).toList=[42]/\(wd 22).toList=[47]/\(wd 23).toList=[37]/\(wd 1).toList=[116,114,117,101]/\(wd 2).toList=[102,97,108,115,101]:=by decide +kernel
theorem J9:nU 0 [13,14]:=by
 intro a f;obtain⟨_,_,_,_,_,b,c,_⟩:=ku;by_cases h:a.t.k=4∨a.t.k=5
 . rw[nJ h];simp only[dC,nQ h,b,c];by_cases d:a.t.s.toList=[111,114]
   . rw[d];decide
   by_cases e:a.t.s.toList=[120,111,114]
   . rw[e];decide
   have:iH a.t.s.toList 0=false:=by unfold iH;rw[ae (by simp[d,e])];(repeat' split) <;> rfl
   rw[this];simp[d,e]
 rw[nM (by omega) (by omega),mi (by omega)];rfl
theorem Kw:nU 1 [12]:=by
 intro a d;obtain⟨_,_,_,_,b,_⟩:=ku;by_cases h:a.t.k=4∨a.t.k=5
 . rw[nJ h];simp only[dC,nQ h,b];by_cases c:a.t.s.toList=[97,110,100]
   . rw[c];decide
   have:iH a.t.s.toList 1=false:=by unfold iH;(repeat' split) <;> first|rfl|contradiction
   rw[this];simp[c]
 rw[nM (by omega) (by omega),mi (by omega)];rfl
theorem KT:nU 2 [19,20]:=by
 intro a f;obtain⟨_,_,_,_,_,_,_,_,_,_,_,b,c,_⟩:=ku;by_cases h:a.t.k=4∨a.t.k=5
 . rw[nJ h];simp only[dC,nQ h,b,c];by_cases d:a.t.s.toList=[43]
   . rw[d];decide
   by_cases e:a.t.s.toList=[45]
   . rw[e];decide
   have:iH a.t.s.toList 2=false:=by unfold iH;(repeat' split) <;> first|rfl|(exfalso;simp_all;done)
   rw[this];simp[d,e]
 rw[nM (by omega) (by omega),mi (by omega)];rfl
theorem Kv:nU 3 [21,22,23]:=by
 intro a i;obtain⟨_,_,_,_,_,_,_,_,_,_,_,_,_,b,c,d,_⟩:=ku;by_cases h:a.t.k=4∨a.t.k=5
 . rw[nJ h];simp only[dC,nQ h,b,c,d];by_cases e:a.t.s.toList=[42]
   . rw[e];decide
   by_cases f:a.t.s.toList=[47]
   . rw[f];decide
   by_cases g:a.t.s.toList=[37]
   . rw[g];decide
   have:iH a.t.s.toList 3=false:=by unfold iH;(repeat' split) <;> first|rfl|(exfalso;simp_all;done)
   rw[this];simp[e,f,g]
 rw[nM (by omega) (by omega),mi (by omega)];rfl
end
section
variable {b:Xn}
def nT (w:Xw)(a:Nat)(b:Xn):Prop:=∀(i k:Nat),b[i]?=some k->w.cell? (xD a i)=some (xI k)
theorem nT.fr {w e:Xw}{a d:Nat}(h:nT w a b)(f:Fr (·=d) w e)(c:¬a=d)(j:a<w.heap.size):nT e a b:=λi k g=>((sw f).1 a i j c).trans (h i k g)
theorem pn {d:Nat}{f:FuncId}{part:Fn}{o:Nat}(I:zH f)(a3:zX d f part)(a0:zv d part)(M:nU o b)(a9:b.length<=100)(a2:∀k∈b,k<24)
 (S:Xs) (s:Nat) (q:St) (p:Nat) (w:Xw) (P n:Nat) (b0:n=b.length) (bt:Inv p q) (bk:18<=q.op+d) (hR:PL S w s q) (bx:nT w P b) (cs:s<P) (L:P<w.heap.size) :
 xK 275 #[xP s,.func (.func f) #[xP s] #[],xS P n n] w (ef S s w.heap.size w (eo o part q).1 (eo o part q).2):=by
 have T:=a0 q p bt bk;have b3:=za (a3 S s q p w bt bk hR);have bE:eo o part q=dx o part 1300 (part q):=rfl;rw[bE];have be:=hR.lt;have b4:=za bx;have b2:=za T.af;have N1:=za T.num;have O1:aa (18<=(part q).1.op+d):=by unfold aa;rw[T.op];exact bk
 have ck:=za b0;have ca:=za a3;have bp:=za a0;have ak:=za M;have ar:=za I;unfold zH at I;clear hR bE T bx b0 a3 a0 M;generalize part q=x0 at *;obtain⟨R,m⟩:∃R,dx o part 1300 x0=R:=⟨_,rfl⟩;rw[m];have A:=za m;clear m;go_enter func275,ntmps275;go_wp2_with fail;refine b3.o.mono ?_;rintro e c1 ⟨cm,rfl,F,a4,D⟩;have Y:=za F;have V:=za D;clear F D;go_wp2_with fail;go_loopg [7] 1300 (λk l wr=>∃(x:St×Nat) (a:Xp),l=.pointer a/\aa (dx o part k x=R)/\rem x.1<k/\aa (Inv p x.1)/\aa (18<=x.1.op+d)/\aa (PL S wr s x.1)/\aa (x.1.er=0->TR wr w.heap.size x.1.L x.2 (.pointer a))/\aa (Fr (·=s) w wr));case atStart => refine⟨x0,cm,rfl,A.o,?_,b2.o,O1.o,Y.o,a4.out,V.o⟩;unfold rem;split <;> omega
 case round =>
  obtain⟨x,a,rfl,Q,b1,c,v,u,B,t⟩:=hrel;have bL:=u.o.lt;obtain⟨g,rfl⟩:∃g,gk=g+1:=⟨gk-1,by omega⟩;have i:=za (kF S s x.1 P n b ck.o a9 wr (b4.o.fr t.o (by omega) L) a2 c.o.ok.tk u.o);have j:=ak.o x.1 c.o.ok.tk;have bl:=t.o.size;cases r:et x.1.t o with
  | false =>
    rw[r,ae (by simp)] at j;have H:R=x:=by
     rw[<- Q.o]
     show (if x.1.er=0/\et x.1.t o=true then _ else x)=x;rw[ae (by rw[r];simp)]
    have al:=za H;rw[j] at i;simp only[fR] at i;clear r j H Q;go_wp2_with (go_at_call 289;refine i.o.mono ?_;rintro e w' ⟨rfl,rfl⟩);go_ret;rw[al.o];exact⟨a,rfl,u.o,B.o,t.o⟩
  | true =>
    rw[r,ag rfl] at j;have K:4<=x.1.t.k:=by
     rcases Nat.lt_or_ge x.1.t.k 4 with h|h
     . rw[mi (by omega)] at r;cases r
     exact h
    have J:=c.o.bd.er (by omega);have bs:=ai.gj c.o J (nS r);have C:=bp.o x.1.ad (p+1) bs.af (by rw[St.bQ];exact v.o);have X:aa (dx o part g ((part x.1.ad).1.put ⟨x.1.t.s,x.1.t.a,0,[x.2,(part x.1.ad).2],sE,0⟩)=R):=by
     have h:=Q.o;unfold aa;rw[<- h]
     show _=(if x.1.er=0/\et x.1.t o=true then _ else x);rw[ag ⟨J,r⟩]
    have O:aa (Inv p ((part x.1.ad).1.put ⟨x.1.t.s,x.1.t.a,0,[x.2,(part x.1.ad).2],sE,0⟩).1):=(ai.put C.af _).af;have N:aa (18<=((part x.1.ad).1.put ⟨x.1.t.s,x.1.t.a,0,[x.2,(part x.1.ad).2],sE,0⟩).1.op+d):=(by unfold aa;show 18<=(part x.1.ad).1.op+d;rw[C.op,St.bQ];exact v.o);have z:aa (rem ((part x.1.ad).1.put ⟨x.1.t.s,x.1.t.a,0,[x.2,(part x.1.ad).2],sE,0⟩).1<g):=by
     unfold aa rem
     show (if (part x.1.ad).1.er=0 then 1201-(part x.1.ad).1.t.a else 0)<g;have h1:rem x.1=1201-x.1.t.a:=(by unfold rem;rw[ag J]);have h2:=C.ta;have h3:x.1.t.a+1<=x.1.ad.t.a:=(by have:=c.o.tok (nS r);rw[St.dZ J];have cv:=zV x.1.src x.1.t.t c.o.ok.tt;simp only;omega);have h4:=C.af.ok.bR;have h5:=c.o.ok.bR;split <;> omega
    have U:=za (xA ar.o ca.o bp.o S s x.1 p wr a x.2 _ w.heap.size c.o v.o K rfl u.o bl be B.o);rw[j] at i;simp only[fR] at i;clear r j Q J bs C K;generalize (part x.1.ad).1.put ⟨x.1.t.s,x.1.t.a,0,[x.2,(part x.1.ad).2],sE,0⟩=y at *;generalize aF x.1.t.s.toList 0=c0 at *;go_wp2_with (first|(go_at_call 289;refine i.o.mono ?_;rintro e w' ⟨rfl,rfl⟩)|(go_at_call 290;refine U.o.mono ?_;rintro e c2 ⟨cn,rfl,G,a5,E⟩;have Z:=za G;have W:=za E;clear G E));go_roundg g;case measure=>omega
    exact⟨y,cn,rfl,X,z.out,O,N,Z.o,a5.out,t.o.trans W.o⟩
end
section
variable {part:Fn} {d:Nat}
theorem iF (w:Xw)(b:Xn)(a:Xa)(t:Xy)(h:a=(b.map λk:Nat=>(xI (k:Int))).toArray):nT (w.alloc (.cells a t)) w.heap.size b:=by intro i k c;subst h;have:=zc w (.cells (b.map λk:Nat=>(xI (k:Int))).toArray t);unfold World.cell?;rw[this];simp[c]
theorem ef.alloc {S:Xs}{c B:Nat}{w:Xw}{o:Obj}{b:St}{r:Nat}{e:Ending}{f:Xw}(h:ef S c B (w.alloc o) b r e f)(l:w.heap.size<=B):ef S c w.heap.size w b r e f:=by obtain⟨a,g,i,j,k⟩:=h;exact⟨a,g,i,λm=>(j.out m).down l,((Fr.refl _ w).alloc o).trans k⟩
theorem jg (w:Xw)(o:Obj):w.heap.size<=(w.alloc o).heap.size:=by simp
theorem KR:zH 276:=λ_ _=>by kernel_rfl
theorem Iu (n:zX d 276 part)(h:zv d part):zX d 241 (eo 0 part):=by intro S q f p w m o c;have b:=c.lt;have g:=za (pn KR n h J9 (by decide) (by decide) S q f p (w.alloc (.cells #[xI 13,xI 14] 213)) w.heap.size 2 rfl m o (c.alloc _) (iF w [13,14] _ _ rfl) b (by simp));generalize eo 0 part f=R at *;go_enter func241,ntmps241;go_wp2_with fail;refine g.o.mono ?_;rintro e r i;obtain⟨a,rfl,j,k,l⟩:=i.alloc (jg _ _);go_wp2_with fail;go_ret;exact⟨a,rfl,j,k,l⟩
theorem KY:zH 291:=λ_ _=>by kernel_rfl
theorem JC (n:zX d 291 part)(h:zv d part):zX d 276 (eo 1 part):=by intro S q f p w m o c;have b:=c.lt;have g:=za (pn KY n h Kw (by decide) (by decide) S q f p (w.alloc (.cells #[xI 12] 213)) w.heap.size 1 rfl m o (c.alloc _) (iF w [12] _ _ rfl) b (by simp));generalize eo 1 part f=R at *;go_enter func276,ntmps276;go_wp2_with fail;refine g.o.mono ?_;rintro e r i;obtain⟨a,rfl,j,k,l⟩:=i.alloc (jg _ _);go_wp2_with fail;go_ret;exact⟨a,rfl,j,k,l⟩
theorem HX:zH 305:=λ_ _=>by kernel_rfl
theorem J5 (n:zX d 305 part)(h:zv d part):zX d 299 (eo 2 part):=by intro S q f p w m o c;have b:=c.lt;have g:=za (pn HX n h KT (by decide) (by decide) S q f p (w.alloc (.cells #[xI 19,xI 20] 213)) w.heap.size 2 rfl m o (c.alloc _) (iF w [19,20] _ _ rfl) b (by simp));generalize eo 2 part f=R at *;go_enter func299,ntmps299;go_wp2_with fail;refine g.o.mono ?_;rintro e r i;obtain⟨a,rfl,j,k,l⟩:=i.alloc (jg _ _);go_wp2_with fail;go_ret;exact⟨a,rfl,j,k,l⟩
theorem Jf:zH 308:=λ_ _=>by kernel_rfl
theorem H6 (n:zX d 308 part)(h:zv d part):zX d 305 (eo 3 part):=by intro S q f p w m o c;have b:=c.lt;have g:=za (pn Jf n h Kv (by decide) (by decide) S q f p (w.alloc (.cells #[xI 21,xI 22,xI 23] 213)) w.heap.size 3 rfl m o (c.alloc _) (iF w [21,22,23] _ _ rfl) b (by simp));generalize eo 3 part f=R at *;go_enter func305,ntmps305;go_wp2_with fail;refine g.o.mono ?_;rintro e r i;obtain⟨a,rfl,j,k,l⟩:=i.alloc (jg _ _);go_wp2_with fail;go_ret;exact⟨a,rfl,j,k,l⟩
theorem KC:zH 299:=λ_ _=>by kernel_rfl
theorem yx (a:St)(_hk:a.t.k<=5)(l:Tx a.src a.t):dC a [15,16,17,18]=if eh a.t=true then some (aF a.t.s.toList 0) else none:=by
 obtain⟨_,_,_,_,_,_,_,c,e,f,g,_⟩:=ku;by_cases h:a.t.k=4∨a.t.k=5
 . simp only[dC,nQ h,c,e,f,g];by_cases hq:a.t.s.toList=[61]∨a.t.s.toList=[60,62]∨a.t.s.toList=[60]∨a.t.s.toList=[60,61]
   . have b:a.t.k=4:=by
      rcases h with h|h
      . exact h
      have:=l.kw h;unfold ep at this;rcases hq with hq|hq|hq|hq <;> (rw[hq] at this;exact absurd this (by decide))
     unfold eh;rw[b];rcases hq with hq|hq|hq|hq <;> (rw[hq];decide)
   simp only[not_or] at hq;obtain⟨i,j,k,b⟩:=hq;unfold eh;simp[i,j,k,b]
 rw[nM (by omega) (by omega)];have b:(a.t.k==4)=false:=by simp;omega
 have:eh a.t=false:=by unfold eh;rw[b];rfl
 rw[this];rfl
theorem Jw (C:zX d 299 part)(A:zv d part):zX d 291 (ei part):=by
 intro S m c p w E z G;have v:=G.lt;have B:=za (C S m c p w E z G);have D:=A c p E z;have j:=za D.af;have H:aa (18<=(part c).1.op+d):=by unfold aa;rw[D.op];exact z
 have F:ei part c=if (part c).1.er=0/\eh (part c).1.t=true then (part (part c).1.ad).1.put ⟨(part c).1.t.s,(part c).1.t.a,0,[(part c).2,(part (part c).1.ad).2],sE,0⟩ else part c:=rfl;generalize part c=x at *;cases l:eh x.1.t with
 | false => have h:ei part c=x:=(by rw[F,ae (by rw[l];simp)]);rw[h];go_enter func291,ntmps291;go_wp2_with fail;refine B.o.mono ?_;rintro e f ⟨t,rfl,a,i,g⟩;have b:=za (kF S m x.1 f.heap.size 4 [15,16,17,18] rfl (by decide) (f.alloc (.cells #[xI 15,xI 16,xI 17,xI 18] 213)) (iF f _ _ _ rfl) (by decide) j.o.ok.tk (a.alloc _));rw[yx x.1 j.o.ok.tk a.tx,l,ae (by simp)] at b;simp only[fR] at b;go_wp2_with (go_at_call 289;refine b.o.mono ?_;rintro e J ⟨rfl,rfl⟩);go_ret;exact⟨t,rfl,a.alloc _,λn=>(i.out n).fr ((Fr.refl (·=m) f).alloc _) (λk _ _ _=>by omega),g.alloc _⟩
 | true => have s:4<=x.1.t.k:=(by unfold eh at l;simp at l;omega);have n:=j.o.bd.er (by omega);have h:ei part c=(part x.1.ad).1.put ⟨x.1.t.s,x.1.t.a,0,[x.2,(part x.1.ad).2],sE,0⟩:=(by rw[F,ag ⟨n,l⟩]);rw[h];go_enter func291,ntmps291;go_wp2_with fail;refine B.o.mono ?_;rintro e f ⟨t,rfl,a,i,g⟩;have b:=za (kF S m x.1 f.heap.size 4 [15,16,17,18] rfl (by decide) (f.alloc (.cells #[xI 15,xI 16,xI 17,xI 18] 213)) (iF f _ _ _ rfl) (by decide) j.o.ok.tk (a.alloc _));rw[yx x.1 j.o.ok.tk a.tx,l,ag rfl] at b;simp only[fR] at b;have K:=g.size;have o:=za (xA KC C A S m x.1 p (f.alloc (.cells #[xI 15,xI 16,xI 17,xI 18] 213)) t x.2 _ w.heap.size j.o H.o s rfl (a.alloc _) (by simp;omega) v (λn=>(i.out n).fr ((Fr.refl (·=m) f).alloc _) (λk _ _ _=>by omega)));generalize (part x.1.ad).1.put ⟨x.1.t.s,x.1.t.a,0,[x.2,(part x.1.ad).2],sE,0⟩=y at *;generalize aF x.1.t.s.toList 0=L at *;go_wp2_with (first|(go_at_call 289;refine b.o.mono ?_;rintro e J ⟨rfl,rfl⟩)|(go_at_call 290;refine o.o.mono ?_;rintro e M ⟨I,rfl,r,u,q⟩));go_ret;exact⟨I,rfl,r,u,(g.alloc _).trans q⟩
end
end Go.Proofs.YtmfkofhgdjechaaGreatDoor
