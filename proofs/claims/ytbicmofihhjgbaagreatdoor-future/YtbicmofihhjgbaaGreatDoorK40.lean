/- Part 41 of the proof. -/
import Derived.Test.YtbicmofihhjgbaaGreatDoorK39
set_option maxRecDepth 100000
set_option maxHeartbeats 8000000
namespace Go.Proofs.YtbicmofihhjgbaaGreatDoor
open Go.Proofs.Tryz
open Go.RowKit
section
variable {l:List Int} {B:Nat} {w:Xw}
def NQ (k:Nat)(a:List Int)(n:Nat):List Int:=(List.range k).map (λi=>a.getD (n*k+i) 0)
def M3 (l:List Int):List Int:=l.map (λx=>Pj (O0 x))
def N3 (a:Xk)(l:List Int):List Int:=if (Nk a l).isSome=true then M3 l else l
theorem Qv (k:Nat)(a:List Int)(n:Nat):(NQ k a n).length=k:=by simp[NQ]
theorem Qu (l:List Int):(M3 l).length=l.length:=by simp[M3]
theorem TK:∀(a:Xk) (l:List Int) (i:Nat),Ob a (M3 l) i=none
 | [],l,i=>by simp[Ob]
 | b::a,[],i=>rfl
 | b::a,x::l,i=>by show (if b=true/\Pj (O0 x)≠0/\Pj (O0 x)≠1 then some i else Ob a (M3 l) (i+1))=none;rw[ae,TK a l (i+1)];rintro⟨_,c,d⟩;revert c d;unfold Pj;cases O0 x <;> simp
theorem Y3 {a:Xk}(h:l.length=a.length):Nk a (M3 l)=none:=by unfold Nk;rw[Qu,ag h];exact TK a l 0
def Mp (c:Cd)(b:List Int)(d:Nat)(a:List Int):Nat->List Int×List Int
 | 0=>([],a)
 | j+1=>((Mp c b d a j).1++M5 c (M1 c (Mp c b d a j).2 (N3 c.dn (NQ c.dn.length b (d+j)))),(M1 c (Mp c b d a j).2 (N3 c.dn (NQ c.dn.length b (d+j)))).cells)
theorem PS {v:Xv}(h:w.ownsRow B 2 1 v l.length (zK l)):∃g,Nm w v g l/\(l≠[]->B<=g/\g<w.heap.size/\v.ownBlock=some g):=by
 obtain⟨a,f,rfl⟩:=zB h;by_cases i:l=[]
 . subst i;refine⟨0,⟨a,f,rfl,aE _,?_,λe=>absurd rfl e⟩,λe=>absurd rfl e⟩;rcases h.2 with ⟨e,_⟩|⟨g,b,c,e,_,_,k,d,_⟩
   . cases e;exact aE _
   cases e;exact d
 rcases h.2 with ⟨_,e⟩|⟨g,b,c,e,m,o,k,d,_⟩
 . exact absurd (List.eq_nil_of_length_eq_zero e) i
 cases e;refine⟨g,⟨_,f,rfl,k,d,λ_=>⟨0,rfl,λj x n=>?_⟩⟩,λ_=>⟨m,(h.lt g rfl).2,rfl⟩⟩;have:=r5 h (j:=j) (u:=(xI x)) (by simp[zK,n]);rw[Nat.zero_add];exact this
theorem YL {g n a k:Nat}{e:Xy}{c:Xm}(h:w.ownsRow B e 1 (xS g n a) n c)(u:Xv):(w.setCell (xD g k) u).ownsRow B e 1 (xS g n a) n (c.set k u):=by
 refine⟨by rw[List.length_set];exact h.1,?_⟩;rcases h.2 with ⟨e,_⟩|⟨q,d,b,e,o,p,f,i,j,m⟩
 . cases e
 cases e;refine ap ⟨g,a,b.setIfInBounds k u,rfl,o,zh w g k u p,f,i,by simpa using j,?_⟩;rw[Array.toList_setIfInBounds,<- m,Nat.mul_one,List.take_set]
theorem Y6 (t u:Xv)(m n:Nat)(l:List Int)(w:Xw)(p:Nm w t m l)(q:Nm w u n l)(K:l.length<=1000000) :
 xK 23 #[t,u] w (λe C=>e=.returned (.bool true)/\xB w C):=by
 obtain⟨D,F,rfl,_,_,r⟩:=p.ex;obtain⟨E,G,rfl,_,_,s⟩:=q.ex;have h:=za r;have i:=za s;clear r s p q;go_enter func23,ntmps23;go_upto_region 4 with fail;go_loopg [5] (l.length+1) (λj y wr=>∃k:Nat,k+j=l.length+1/\k<=l.length/\y=xI k/\aa (xB w wr)/\aa (∀b o,wr.cell? (xD b o)=w.cell? (xD b o)));case atStart=>exact⟨0,by omega,aE _,rfl,Below.refl _ _,λ_ _=>rfl⟩
 case round =>
  obtain⟨k,J,v,rfl,c,f⟩:=hrel;by_cases a:k<l.length
  . obtain⟨x,g⟩:∃x,l[k]?=some x:=⟨_,av a⟩;have d:l≠[]:=by intro e;rw[e] at a;simp at a
    obtain⟨z,rfl,f1⟩:=h.o d;obtain⟨A,rfl,f2⟩:=i.o d;have H:xC wr m (z+k) (xI x):=(f.o _ _).trans (f1 k x g);have I:xC wr n (A+k) (xI x):=(f.o _ _).trans (f2 k x g);clear f1 f2 g h i;go_upto_region 6 with fail;go_quiet (fail);go_wp2_with fail;go_roundg (gk-1);case measure=>omega
    exact⟨k+1,by omega,by omega,by go_num,⟨c.o.os,c.o.tape,c.o.output,c.o.size,c.o.block⟩,λb o=>f.o b o⟩
  obtain rfl:k=l.length:=by omega
  go_wp2_with fail;go_ret;exact⟨rfl,c.o⟩
end
section
variable {c:Cd} {x:Int} {d g l f:List Int} {m:Ma} {N k n q:Nat} {S:Xs} {a:Xv} {w b:Xw}
structure Ch (S:Xs) (w:Xw) (N:Nat) (m:Ma) (a:Xv) (c:Cd) (d f:List Int):Prop where
 gl:Gl S w
 sn:p2 S w N
 mm:MM w m a c d f
 n0:N<=m.mb
 n1:N<=m.b1
 n2:N<=m.b2
 ns:∀j,a.ownBlock=some j->N<=j
 sz:N<=w.heap.size
theorem Ch.aq (h:Ch S w N m a c d f)(i:xB w b):Ch S b N m a c d f :=
 ⟨h.gl.of (T:=λ_=>False) (Fr.Mo i) (λ_ e=>e.elim),h.sn.am (zm i h.sz),h.mm.aq i,h.n0,h.n1,h.n2,h.ns,aJ h.sz i.size⟩
theorem Ch.on {p:Xv}{i o:List Int}(h:Ch S w N m a c d f)(r:MM b m p c i o)(hF:fV m.mb m.b1 m.b2 w a b p):Ch S b N m p c i o:=by
 have s:bV N w b:=hF.am h.sz h.n0 h.n1 h.n2 h.ns;refine⟨h.gl.of hF.fr (λk hk=>?_),h.sn.am s,r,h.n0,h.n1,h.n2,λj e=>?_,aJ h.sz hF.fr.size⟩
 . have:=h.sn.lo;rcases hk with rfl|rfl|rfl|hk
   . exact aJ this h.n0
   . exact aJ this h.n1
   . exact aJ this h.n2
   exact aJ this (h.ns k hk)
 rcases hF.new j e with e|e
 . exact h.ns j e
 exact aJ h.sz e
theorem Ch.PA (h:Ch S w N m a c d f):m.mb<w.heap.size/\m.b1<w.heap.size/\m.b2<w.heap.size/\(∀j,a.ownBlock=some j->j<w.heap.size) :=
 ⟨ze h.mm.mc.mem.aC,ze h.mm.mc.mem.ce,ze h.mm.mc.mem.sl,λj e=>(h.mm.mc.mem.own.lt j e).2⟩
theorem Ch.row {B:Nat}{T:Xj}(h:Ch S w N m a c d f)(hF:Fr T w b)(o:∀j,T j->B<=j/\¬a.ownBlock=some j)(t:m.N<=B)(z:m.M<B)(A:m.mb<B)(C:m.b1<B)(D:m.b2<B)(s:N<=B):Ch S b N m a c d f:=by have y:bV N w b:=hF.am h.sz (λk i=>aJ s (o k i).1);have r:bV m.N w b:=hF.am h.mm.mc.mem.hB (λk i=>aJ t (o k i).1);have i:∀k,k<w.heap.size->¬T k->b.heap[k]?=w.heap[k]?:=λk p v=>hF.block k p v;have m:=h.mm.mc.mem;refine⟨h.gl.of hF (λk i=>aJ h.sn.lo (aJ s (o k i).1)),h.sn.am y,⟨(i _ (ze h.mm.aC) (λe=>by have:=(o _ e).1;omega)).trans h.mm.aC,⟨h.mm.mc.code.am r,?_,h.mm.mc.n0,h.mm.mc.n1,h.mm.mc.n2,h.mm.mc.lc,h.mm.mc.ls⟩,h.mm.m0,h.mm.m1,h.mm.m2,h.mm.ms⟩,h.n0,h.n1,h.n2,h.ns,aJ h.sz hF.size⟩;exact⟨(i _ (ze m.aC) (λe=>by have:=(o _ e).1;omega)).trans m.aC,(i _ (ze m.ce) (λe=>by have:=(o _ e).1;omega)).trans m.ce,(i _ (ze m.sl) (λe=>by have:=(o _ e).1;omega)).trans m.sl,zi m.own (λk _ p e=>i k p (λu=>(o k u).2 e)),m.Nt,m.NU,m.NV,m.sm,m.s1,m.s2,aJ m.hB hF.size⟩
theorem TH (e:q<k):(NQ k g n).take (q+1)=(NQ k g n).take q++[g.getD (n*k+q) 0]:=by refine kN ?_;simp[NQ,e]
theorem Y8 (h:∀x∈g,-9223372036854775808<=x/\x<=9223372036854775807):∀x∈NQ k g n,-9223372036854775808<=x/\x<=9223372036854775807:=by
 intro x j;obtain⟨i,_,rfl⟩:=List.mem_map.1 j;rw[List.getD_eq_getElem?_getD];cases e:g[n*k+i]? with
 | none=>simp
 | some y=>simpa using h y (aM e)
def Ox (l:List Int)(q:Nat):List Int:=M3 (l.take q)++l.drop q
theorem YZ (h:l[q]?=some x):(Ox l q)[q]?=some x:=by have:=(aB.1 h).1;unfold Ox;rw[e8 (by simp[M3];omega)];simp only[M3,List.length_map,List.length_take,List.getElem?_drop];rw[show q+(q-min q l.length)=q by omega];exact h
theorem Y2 (h:l[q]?=some x):(Ox l q).set q (Pj (O0 x))=Ox l (q+1):=by
 have i:=(aB.1 h).1;unfold Ox;have e:(M3 (l.take q)).length=q:=by simp[M3];omega
 rw[List.set_append_right (h:=by omega),e,Nat.sub_self,dE i,Mb,kN h];unfold M3;rw[List.map_append];simp only[List.map_cons,List.map_nil,bw,List.cons_append,List.nil_append]
end
section
theorem Q7 (a b:List Int):zK (a++b)=zK a++zK b:=by simp[zK]
theorem YM {w:Xw}{B g n b f:Nat}{e:Xy}{j:Xm}(h:w.ownsRow B e f (xS g n b) n j)(i:Nat):w.frozen? (xD g i)=false:=by
 rcases h.2 with ⟨e,_⟩|⟨k,a,c,e,_,d,_⟩
 . cases e
 cases e;exact Lib.frozen_of_heap d i
theorem Q8 {c:Cd}{cells l:List Int}(b:OW c)(a:Mt c.al c.cells.length 0 c.row=some 0)(e:l.length=c.dn.length):(M5 c (M1 c cells l)).length=c.aG:=by
 have d:(Oa c.al l).length=c.al:=by have:=b.NF;simp[Oa];omega
 have:=(Q1 c.row 0 0 ⟨cells,Oa c.al l,[]⟩ a rfl).2.2;refine Tr (R:=M1 c cells l) ?_ b.NF;unfold M1;rw[this];exact d
def Ra (S:Xs)(N:Nat)(m:Ma)(g:Xv)(c:Cd)(w:Xw)(Q:List Int×List Int)(e:Ending)(f:Xw):Prop :=
 ∃d b a,e=.returned d/\f.ownsRow w.heap.size 2 1 d Q.1.length (zK Q.1)/\Ch S f N m b c Q.2 a/\fV m.mb m.b1 m.b2 w g f b/\(∀j,d.ownBlock=some j->¬b.ownBlock=some j)
theorem R4 (S:Xs)(N:Nat)(m:Ma)(ch:Xv)(c:Cd)(d ar:List Int)(w:Xw)(v:Xv)(f:List Int)(a b:Nat)(h:Ch S w N m ch c d ar)(ab:OW c)(I:Mt c.al c.cells.length 0 c.row=some 0)(bE:Ar w N v f)(eq:a<=b)(es:b<=8) :
 xK 19 #[xP m.M,v,xI a,xI b] w (Ra S N m ch c w (Mp c f a d (b-a))):=by
 obtain⟨i0,hi,c0,c1,c2⟩:=info_parts Tryz.Pz;obtain⟨e7,fd,rfl,c4,_⟩:=bE.ex;have cz:=za (TC m ch c d ar w h.mm);have g:=za h;have cb:c.dn.length<=255:=by have:=ab.NF;have:=ab.NW;omega
 have eR:c.aG<=255:=by have:=ab.NF;have:=ab.NW;omega
 obtain⟨r,bp⟩:∃r,c.dn.length=r:=⟨_,rfl⟩;rw[bp] at cz cb;have aL:=za bp;obtain⟨il,bY⟩:∃il,f.length=il:=⟨_,rfl⟩;rw[bY] at c4 ⊢;clear h bp;go_enter func19,ntmps19;go_upto_region 4 with (go_at_call 20;refine cz.o.mono ?_;rintro e w1 ⟨rfl,rfl⟩);go_loopg [9,11] (b-a+1) (λj ov nv wr=>∃(i:Nat) (bA:Xp) (co E:Nat) (G:Xv) (t:List Int),i+j=b-a+1/\i<=b-a/\nv=xI ((a+i:Nat):Int)/\ov=.slice bA E co/\aa (E=(Mp c f a d i).1.length)/\aa (wr.ownsRow w.heap.size 2 1 (.slice bA E co) E (zK (Mp c f a d i).1))/\aa (Ch S wr N m G c (Mp c f a d i).2 t)/\aa (fV m.mb m.b1 m.b2 w ch wr G)/\aa (∀j,(Value.slice bA E co).ownBlock=some j->¬G.ownBlock=some j));case atStart=>exact⟨0,none,0,0,ch,ar,by omega,aE _,rfl,rfl,rfl,World.ownsRow_nil _ _ _ _,g,fV.refl _ _ _ _ _,za (λj e=>by simp[Value.ownBlock] at e)⟩
 case round =>
  obtain⟨i,bA,co,E,G,t,eG,eF,rfl,rfl,a5,aV,bs,bL,cv⟩:=hrel;obtain⟨a1,cl⟩:∃P,Mp c f a d i=P:=⟨_,rfl⟩;rw[cl] at a5 aV bs;obtain⟨n,bq⟩:∃n,a+i=n:=⟨_,rfl⟩;have c9:n<=8:=by omega
  have dY:E<=255*8:=by
   have e:∀i,i<=8->(Mp c f a d i).1.length<=255*i/\(Mp c f a d i).2.length=c.cells.length:=by
    intro i;induction i with
    | zero=>intro _;exact⟨aE _,g.o.mm.mc.lc⟩
    | succ i eZ =>
      intro hi;obtain⟨h1,h2⟩:=eZ (by omega);have hu:(N3 c.dn (NQ c.dn.length f (a+i))).length=c.dn.length:=by
       unfold N3;split
       . rw[Qu,Qv]
       rw[Qv]
      have h3:=Q8 (cells:=(Mp c f a d i).2) ab I hu;refine⟨?_,?_⟩
      . rw[Mp];simp only[aP];omega
      rw[Mp];have:=(Q1 c.row 0 0 ⟨(Mp c f a d i).2,Oa c.al (N3 c.dn (NQ c.dn.length f (a+i))),[]⟩ I rfl).2.1;exact this.trans h2
   have:=(e i (by omega)).1;rw[cl] at this;have:=a5.o;omega
  rw[bq];have c6:∀x:Nat,((a+i:Nat):Int)<(b:Int)↔n<b:=λ_=>by omega
  clear c6;obtain⟨a3,cB⟩:∃a3,a3=wr:=⟨_,rfl⟩;obtain⟨go,ek⟩:∃go,go=gk:=⟨_,rfl⟩;by_cases eQ:n<b
  . have c5:(n:Int)<(b:Int):=by omega
    go_upto_region 8 with fail;have dH:IntKind.i64.wrap ((n:Int)*(r:Int))=((n*r:Nat):Int):=(by have:n*r<=8*255:=Nat.mul_le_mul c9 cb;rw[IntKind.wrap_i64];have e:((n*r:Nat):Int)=(n:Int)*(r:Int):=Int.natCast_mul n r;omega);obtain⟨nk,bt⟩:∃nk,n*r=nk:=⟨_,rfl⟩;have eb:nk<=8*255:=(by rw[<- bt];exact Nat.mul_le_mul c9 cb);rw[bt] at dH;obtain⟨o,H⟩:∃o,NQ r f n=o:=⟨_,rfl⟩;have s:=za (show o.length=r by rw[<- H,Qv]);rw[<- cB];rw[<- cB] at aV bs bL;go_loopg [12,13] (r+1) (λj e0 dP wq=>∃(q:Nat) (ck:Xp) (a4:Nat),q+j=r+1/\q<=r/\dP=xI q/\e0=.slice ck q a4/\aa (wq.ownsRow a3.heap.size 2 1 (.slice ck q a4) q (zK (o.take q)))/\aa (xB a3 wq));case atStart=>exact⟨0,none,0,by omega,aE _,rfl,rfl,World.ownsRow_nil _ _ _ _,Below.refl _ _⟩
    case round =>
     obtain⟨q,ck,a4,ce,cg,rfl,rfl,F,Q⟩:=hrel;have dM:=Q.o.size;by_cases cm:q<r
     . have dz:(q:Int)<(r:Int):=(by omega);have eS:IntKind.i64.wrap ((nk:Int)+(q:Int))=((nk+q:Nat):Int):=(by rw[IntKind.wrap_i64];omega);have mx:q+1<=maxLen:=(by unfold maxLen;omega);have a2:(q+1)*8<=140737488355328:=(by omega);by_cases eN:nk+q<il
       . have c3:((nk+q:Nat):Int)<(il:Int):=(by omega);obtain⟨x,hx⟩:∃x,f[nk+q]?=some x:=⟨_,av (by have:=bY;omega)⟩;have cE:=za hx;have da:bV N w wr:=λj bx=>((zm Q.o (an _)) j (by have:=bs.o.sz;omega)).trans ((bL.o.am g.o.sz g.o.n0 g.o.n1 g.o.n2 g.o.ns) j bx);obtain⟨_,_,ds,_,aA⟩:=(bE.fr da).ex;cases ds;obtain⟨g1,o1,rfl,ex,bC⟩:=aA (by intro e;rw[e] at hx;simp at hx);have ev:=bC (nk+q) x hx;have eE:g1<wr.heap.size:=(by have:=bs.o.sz;omega);clear bC aA hx da;go_wp2_with (at_builtin;refine Tw _ rfl (.tmp 47) (.tmp 49) rfl a3.heap.size ck a4 q _ (x) rfl F.o rfl mx a2 (by omega) ?_;intro g9 cK w9 h9 f9;have J:=za f9;have z:=za h9;clear h9 f9);go_roundg (gk-1);case measure=>omega
         refine⟨q+1,_,_,by omega,by omega,by go_num,rfl,?_,?_⟩
         . have e1:zK (o.take q)++[xI (x)]=zK (o.take (q+1)):=(by rw[<- H,TH cm,Q7,bt,List.getD_eq_getElem?_getD,cE.o];rfl);refine za ?_;rw[<- e1];exact z.o
         exact za (Q.o.trans ((((Fr.refl _ wr).alloc _).dr J.o (λi _ e=>e)).below (B:=a3.heap.size) (by omega) (λk e=>(F.o.lt _ e).1)))
       have c3:¬(((nk+q:Nat):Int)<(il:Int)):=(by omega);have cE:aa (f[nk+q]?=none):=List.getElem?_eq_none (by have:=bY;omega);go_wp2_with (at_builtin;refine Tw _ rfl (.tmp 47) (.tmp 49) rfl a3.heap.size ck a4 q _ (0) rfl F.o rfl mx a2 (by omega) ?_;intro g9 cK w9 h9 f9;have J:=za f9;have z:=za h9;clear h9 f9);go_roundg (gk-1);case measure=>omega
       refine⟨q+1,_,_,by omega,by omega,by go_num,rfl,?_,?_⟩
       . have e1:zK (o.take q)++[xI (0)]=zK (o.take (q+1)):=(by rw[<- H,TH cm,Q7,bt,List.getD_eq_getElem?_getD,cE.o];rfl);refine za ?_;rw[<- e1];exact z.o
       exact za (Q.o.trans ((((Fr.refl _ wr).alloc _).dr J.o (λi _ e=>e)).below (B:=a3.heap.size) (by omega) (λk e=>(F.o.lt _ e).1)))
     have dz:¬((q:Int)<(r:Int)):=(by omega);obtain rfl:r=q:=(by omega);rw[de (by rw[s.o];exact an _)] at F;clear cm ce cg;by_cases K:(Nk c.dn o).isSome=true
     . have be:aa (N3 c.dn (NQ c.dn.length f n)=M3 o):=(by show N3 _ _=_;rw[aL.o,H];unfold N3;rw[ag K]);have b0:(M3 o).length=c.dn.length:=(by rw[Qu,s.o,aL.o]);have b3:Nk c.dn (M3 o)=none:=Y3 (by rw[s.o,aL.o]);have du:0<r:=by
        rcases Nat.eq_zero_or_pos r with e|e
        . exfalso;have h1:o=[]:=List.eq_nil_of_length_eq_zero (by rw[s.o,e]);have h2:c.dn=[]:=List.eq_nil_of_length_eq_zero (by rw[aL.o,e]);rw[h1,h2] at K;simp[Nk,Ob] at K
        exact e
       obtain⟨bv,ff,er,_⟩:=zM F.o du;cases er;have a9:=za (bs.o.aq Q.o);obtain⟨cO,M,Z⟩:=PS (l:=o) (w:=wr) (B:=a3.heap.size) (v:=(xS bv r a4)) (by rw[s.o];exact F.o);have bB:=za (R1 S m G c a1.2 t wr (xS bv r a4) cO o a9.o.gl a9.o.sn.sn a9.o.sn.Ay a9.o.mm M K);have dk:=za (show ∀x∈o,-9223372036854775808<=x/\x<=9223372036854775807 by rw[<- H];exact Y8 bE.wf);clear M Z K;go_upto_region 17 with (go_at_call 21;refine bB.o.mono ?_;rintro e w3 ⟨rfl,cn⟩);have cA:=za (zi F.o (λj _ bx _=>cn.block j bx));have ct:=za (Q.o.trans (cn.mono dM));clear bB a9;go_loopg [17] (r+1) (λj dP wt=>∃q:Nat,q+j=r+1/\q<=r/\dP=xI q/\aa (wt.ownsRow a3.heap.size 2 1 (xS bv r a4) r (zK (Ox o q)))/\aa (xB a3 wt));case atStart=>exact⟨0,by omega,aE _,rfl,za (by simpa [Ox,M3] using cA.o),ct⟩
       case round =>
        obtain⟨q,ce,cg,rfl,a0,bK⟩:=hrel;have eY:=bK.o.size;by_cases cm:q<r
        . have dc:(q:Int)<(r:Int):=(by omega);obtain⟨x,hx⟩:∃x,o[q]?=some x:=⟨_,av (by rw[s.o];exact cm)⟩;have eW:xC wr bv q (xI x):=r5 a0.o (j:=q) (u:=(xI x)) (by simp[zK,YZ hx]);have eX:wr.frozen? (xD bv q)=false:=YM a0.o q;have cR:=a0.o.lt bv rfl;have di:=za (VW x (dk.o x (aM hx)) wr);have cs:=za (VD (O0 x) wr);have cE:=za hx;have ea:=cR.2;clear hx
          go_wp2_with (first
           | (go_at_call 16;refine di.o.mono ?_;rintro e wz ⟨rfl,rfl⟩)
           | (go_at_call 18;refine cs.o.mono ?_;rintro e wz ⟨rfl,rfl⟩))
          go_roundg (gk-1);case measure=>omega
          refine⟨q+1,by omega,by omega,by go_num,?_,?_⟩
          . refine za ?_;have e1:zK (Ox o (q+1))=(zK (Ox o q)).set q (xI (Pj (O0 x))):=(by rw[<- Y2 cE.o];simp[zK,List.map_set]);rw[e1];exact YL a0.o _
          exact za (bK.o.setCell (p:=(xD bv q)) cR.1 _)
        have dc:¬((q:Int)<(r:Int)):=(by omega);obtain rfl:r=q:=(by omega);have b2:aa (wr.ownsRow a3.heap.size 2 1 (xS bv r a4) (M3 o).length (zK (M3 o))):=(by have h1:=a0.o;have e1:Ox o r=M3 o:=(by unfold Ox;rw[de (by rw[s.o];exact an _),List.drop_eq_nil_of_le (by rw[s.o];exact an _),List.append_nil]);rw[e1] at h1;have bk:(M3 o).length=r:=(by rw[Qu,s.o]);rw[bk];exact h1);have D:=bK;clear a0 F cA cm ce cg;have V:=za (bs.o.aq D.o);obtain⟨cO,M,Z⟩:=PS (l:=(M3 o)) b2.o;have bb:=za (R0 S m G c a1.2 t wr (xS bv r a4) cO (M3 o) V.o.gl V.o.mm M (λcd e=>by have:=(Z cd).1;have:=bs.o.PA.2.2.1;omega) b3 I);obtain⟨R,a6⟩:∃R,M1 c a1.2 (M3 o)=R:=⟨_,rfl⟩;have U:=za (Q8 (cells:=a1.2) ab I b0);rw[a6] at bb U;clear M Z;go_upto_region 23 with (go_at_call 21;refine bb.o.mono ?_;rintro e w5 ⟨ob,L,rfl,e5,dl,dp,bg⟩;have dL:=bg.fr.size);have b1:aa (w5.ownsRow w.heap.size 2 1 (.slice bA E co) E (zK a1.1)):=zi aV.o (λj _ bx e=>(bg.fr.block j (by have:=D.o.size;omega) (λhs=>by
         have h1:=(aV.o.lt j e).1;have h2:=g.o.PA;rcases hs with rfl|rfl|rfl|hs
         . omega
         . omega
         . omega
         exact cv.o j e hs)).trans (D.o.block j bx))
        have mx:E+c.aG<=maxLen:=(by unfold maxLen;omega);have a2:(E+c.aG)*8<=140737488355328:=(by omega);have W:aa ((zK (M5 c R)).length=c.aG*1):=(by show _=_;rw[N8,U.o];omega);go_wp2_with (at_builtin;refine o4 _ rfl (.tmp 82) (.tmp 83) 32 rfl w.heap.size 2 i0 _ 1 8 underlying32 hi c0 c1 c2 rfl (by decide) _ E (zK a1.1) rfl b1.o (xD ob 0) c.aG c.aG (zK (M5 c R)) rfl W.o (zN dl rfl) Pk mx a2 (by have:=g.o.sz;have:=bL.o.fr.size;have:=D.o.size;omega) ?_;intro v9 w9 A C X;obtain⟨dV,dq,rfl⟩:=kE A;have z:=za A;have J:=za (Fr.gi C);clear A C);go_roundg (go-1);case measure=>omega
        have bo:Ch S w5 N m L c R.cells R.al:=V.o.on dp bg;have O:∀j,(Value.slice bA E co).ownBlock=some j->¬L.ownBlock=some j:=λj e bk=>by
         rcases bg.new j bk with e3|e3
         . exact cv.o j e e3
         have:=(aV.o.lt j e).2;have:=D.o.size;omega
        have ca:=g.o.PA;have bl:=ze g.o.mm.aC;have b4:Ch S w9 N m L c R.cells R.al:=bo.row (B:=w.heap.size) J.o (λj e=>⟨(aV.o.lt j e).1,O j e⟩) g.o.mm.mc.mem.hB bl ca.1 ca.2.1 ca.2.2.1 g.o.sz;have Y:Mp c f a d (i+1)=(a1.1++M5 c R,R.cells):=(by rw[Mp,cl,bq,be.o,a6]);refine⟨i+1,dV,dq,E+c.aG,L,R.al,by have:=bq;omega,by have:=bq;omega,by have dw:=bq;go_num,rfl,?_,?_,?_,?_,?_⟩
        . refine za ?_;rw[Y,aP,<- a5.o,U.o]
        . refine za ?_;rw[Y,Q7];exact z.o
        . refine za ?_;rw[Y];exact b4
        . have f1:fV m.mb m.b1 m.b2 w ch wr G:=bL.o.trans (fV.Pf (T:=λ_=>False) (Fr.Mo D.o) (λ_ e=>e.elim));have f2:=f1.trans bg;refine za ⟨f2.fr.dr J.o (λj bx e=>?_),λj e=>?_⟩
          . have:=(aV.o.lt j e).1;omega
          exact f2.new j e
        refine za (λj e bk=>?_);rcases X j e with e3|e3
        . exact O j e3 bk
        have:=(bo.mm.mc.mem.own.lt j bk).2;omega
     have be:aa (N3 c.dn (NQ c.dn.length f n)=o):=(by show N3 _ _=_;rw[aL.o,H];unfold N3;rw[ae K]);have b0:o.length=c.dn.length:=(by rw[s.o,aL.o]);have b3:Nk c.dn o=none:=by
      cases hc:Nk c.dn o with
      | none=>rfl
      | some y=>rw[hc] at K;exact absurd rfl K
     have b2:aa (wr.ownsRow a3.heap.size 2 1 (.slice ck r a4) o.length (zK o)):=(by show wr.ownsRow _ _ _ _ _ _;rw[s.o];exact F.o);have D:=Q;clear K;have V:=za (bs.o.aq D.o);obtain⟨cO,M,Z⟩:=PS (l:=o) b2.o;have bb:=za (R0 S m G c a1.2 t wr (.slice ck r a4) cO o V.o.gl V.o.mm M (λcd e=>by have:=(Z cd).1;have:=bs.o.PA.2.2.1;omega) b3 I);obtain⟨R,a6⟩:∃R,M1 c a1.2 o=R:=⟨_,rfl⟩;have U:=za (Q8 (cells:=a1.2) ab I b0);rw[a6] at bb U;clear M Z;go_upto_region 23 with (go_at_call 21;refine bb.o.mono ?_;rintro e w5 ⟨ob,L,rfl,e5,dl,dp,bg⟩;have dL:=bg.fr.size);have b1:aa (w5.ownsRow w.heap.size 2 1 (.slice bA E co) E (zK a1.1)):=zi aV.o (λj _ bx e=>(bg.fr.block j (by have:=D.o.size;omega) (λhs=>by
      have h1:=(aV.o.lt j e).1;have h2:=g.o.PA;rcases hs with rfl|rfl|rfl|hs
      . omega
      . omega
      . omega
      exact cv.o j e hs)).trans (D.o.block j bx))
     have mx:E+c.aG<=maxLen:=(by unfold maxLen;omega);have a2:(E+c.aG)*8<=140737488355328:=(by omega);have W:aa ((zK (M5 c R)).length=c.aG*1):=(by show _=_;rw[N8,U.o];omega);go_wp2_with (at_builtin;refine o4 _ rfl (.tmp 82) (.tmp 83) 32 rfl w.heap.size 2 i0 _ 1 8 underlying32 hi c0 c1 c2 rfl (by decide) _ E (zK a1.1) rfl b1.o (xD ob 0) c.aG c.aG (zK (M5 c R)) rfl W.o (zN dl rfl) Pk mx a2 (by have:=g.o.sz;have:=bL.o.fr.size;have:=D.o.size;omega) ?_;intro v9 w9 A C X;obtain⟨dV,dq,rfl⟩:=kE A;have z:=za A;have J:=za (Fr.gi C);clear A C);go_roundg (go-1);case measure=>omega
     have bo:Ch S w5 N m L c R.cells R.al:=V.o.on dp bg;have O:∀j,(Value.slice bA E co).ownBlock=some j->¬L.ownBlock=some j:=λj e bk=>by
      rcases bg.new j bk with e3|e3
      . exact cv.o j e e3
      have:=(aV.o.lt j e).2;have:=D.o.size;omega
     have ca:=g.o.PA;have bl:=ze g.o.mm.aC;have b4:Ch S w9 N m L c R.cells R.al:=bo.row (B:=w.heap.size) J.o (λj e=>⟨(aV.o.lt j e).1,O j e⟩) g.o.mm.mc.mem.hB bl ca.1 ca.2.1 ca.2.2.1 g.o.sz;have Y:Mp c f a d (i+1)=(a1.1++M5 c R,R.cells):=(by rw[Mp,cl,bq,be.o,a6]);refine⟨i+1,dV,dq,E+c.aG,L,R.al,by have:=bq;omega,by have:=bq;omega,by have dw:=bq;go_num,rfl,?_,?_,?_,?_,?_⟩
     . refine za ?_;rw[Y,aP,<- a5.o,U.o]
     . refine za ?_;rw[Y,Q7];exact z.o
     . refine za ?_;rw[Y];exact b4
     . have f1:fV m.mb m.b1 m.b2 w ch wr G:=bL.o.trans (fV.Pf (T:=λ_=>False) (Fr.Mo D.o) (λ_ e=>e.elim));have f2:=f1.trans bg;refine za ⟨f2.fr.dr J.o (λj bx e=>?_),λj e=>?_⟩
       . have:=(aV.o.lt j e).1;omega
       exact f2.new j e
     refine za (λj e bk=>?_);rcases X j e with e3|e3
     . exact O j e3 bk
     have:=(bo.mm.mc.mem.own.lt j bk).2;omega
  have c5:¬((n:Int)<(b:Int)):=by omega
  have em:i=b-a:=by have:=bq;omega
  go_wp2_with fail;go_ret;subst em;refine⟨.slice bA E co,G,t,rfl,?_,?_,bL.o,cv.o⟩
  . rw[cl,<- a5.o];exact aV.o
  rw[cl];exact bs.o
end
section
variable {a:Ma} {P:Xj} {b d:Xv}
theorem MM.PB {w:Xw}{m:Ma}{i:Xv}{c:Cd}{f g:List Int}(h:MM w m i c f g):∀k,m.own i k->k<w.heap.size:=by
 have j:=h.mc.mem.hB;rintro k (e|e|e|e|e|e|e|e|e)
 . exact e▸ze h.aC
 . exact e▸ze h.mc.mem.aC
 . exact e▸ze h.mc.code.aC
 . exact e▸ze h.mc.mem.ce
 . exact e▸ze h.mc.mem.sl
 . exact (h.mc.code.xv.lt k e).2
 . exact (h.mc.code.hQ.lt k e).2
 . exact (h.mc.code.zA.lt k e).2
 exact (h.mc.mem.own.lt k e).2
section
variable {S:Xs} {w g:Xw} {N:Nat} {m:Ma} {f:Xv} {c:Cd} {i j:List Int}
theorem Ch.apart {T:Xj}(h:Ch S w N m f c i j)(hF:Fr T w g)(n:∀k,T k->N<=k/\¬m.own f k):Ch S g N m f c i j:=by
 have o:bV N w g:=hF.am h.sz (λk l=>(n k l).1);have l:∀k,m.own f k->g.heap[k]?=w.heap[k]?:=λk e=>hF.block k (h.mm.PB k e) (λt=>(n k t).2 e);have C:=h.mm.mc.code;have M:=h.mm.mc.mem;refine⟨h.gl.of hF (λk t=>aJ h.sn.lo (n k t).1),h.sn.am o,⟨(l _ (.inl rfl)).trans h.mm.aC,⟨?_,?_,h.mm.mc.n0,h.mm.mc.n1,h.mm.mc.n2,h.mm.mc.lc,h.mm.mc.ls⟩,h.mm.m0,h.mm.m1,h.mm.m2,h.mm.ms⟩,h.n0,h.n1,h.n2,h.ns,aJ h.sz hF.size⟩
 . exact⟨(l _ (.inr (.inr (.inl rfl)))).trans C.aC,zi C.xv (λk _ _ e=>l k (.inr (.inr (.inr (.inr (.inr (.inl e))))))),zi C.hQ (λk _ _ e=>l k (.inr (.inr (.inr (.inr (.inr (.inr (.inl e)))))))),zi C.zA (λk _ _ e=>l k (.inr (.inr (.inr (.inr (.inr (.inr (.inr (.inl e))))))))),C.h0,C.h1,C.h2,C.h3,C.NF,C.NW,C.Pu,C.Pw,C.PC⟩
 exact⟨(l _ (.inr (.inl rfl))).trans M.aC,(l _ (.inr (.inr (.inr (.inl rfl))))).trans M.ce,(l _ (.inr (.inr (.inr (.inr (.inl rfl)))))).trans M.sl,zi M.own (λk _ _ e=>l k (.inr (.inr (.inr (.inr (.inr (.inr (.inr (.inr e))))))))),M.Nt,M.NU,M.NV,M.sm,M.s1,M.s2,aJ M.hB hF.size⟩
theorem Ch.turns (h:Ch S w N m f c i j):∀k,(k=m.mb∨k=m.b1∨k=m.b2∨f.ownBlock=some k)->N<=k/\m.own f k:=by
 rintro k (e|e|e|e)
 . exact⟨e▸h.n0,.inr (.inl e)⟩
 . exact⟨e▸h.n1,.inr (.inr (.inr (.inl e)))⟩
 . exact⟨e▸h.n2,.inr (.inr (.inr (.inr (.inl e))))⟩
 exact⟨h.ns k e,.inr (.inr (.inr (.inr (.inr (.inr (.inr (.inr e)))))))⟩
def NM (P:Xj)(m:Ma)(f:Xv):Prop:=∀k,P k->¬m.own f k
theorem NM.on (h:NM P m f)(o:∀k,P k->k<w.heap.size)(hF:fV m.mb m.b1 m.b2 w f g b):NM P m b:=λk n e=>by
 have l:=h k n;rcases e with e|e|e|e|e|e|e|e|e
 . exact l (.inl e)
 . exact l (.inr (.inl e))
 . exact l (.inr (.inr (.inl e)))
 . exact l (.inr (.inr (.inr (.inl e))))
 . exact l (.inr (.inr (.inr (.inr (.inl e)))))
 . exact l (.inr (.inr (.inr (.inr (.inr (.inl e))))))
 . exact l (.inr (.inr (.inr (.inr (.inr (.inr (.inl e)))))))
 . exact l (.inr (.inr (.inr (.inr (.inr (.inr (.inr (.inl e))))))))
 rcases hF.new k e with e|e
 . exact l (.inr (.inr (.inr (.inr (.inr (.inr (.inr (.inr e))))))))
 have:=o k n;omega
theorem Ch.TY {o:Cd}{l n:List Int}(h:Ch S w N m f c i j)(p:Ch S w N a d o l n)(hF:fV m.mb m.b1 m.b2 w f g b)(q:NM (a.own d) m f):Ch S g N a d o l n/\NM (a.own d) m b :=
 ⟨p.apart hF.fr (λk t=>⟨(h.turns k t).1,λe=>q k e (h.turns k t).2⟩),q.on p.mm.PB hF⟩
theorem NM.symm (h:NM (a.own d) m f):NM (m.own f) a d:=λk e l=>h k l e
def Ow (v:Xv)(k:Nat):Prop:=v.ownBlock=some k
theorem Ch.Us {v:Xv}{B n:Nat}{e:Xy}{p:Xm}(h:Ch S w N m f c i j)(l:w.ownsRow B e 1 v n p)(hF:fV m.mb m.b1 m.b2 w f g b)(o:NM (Ow v) m f):g.ownsRow B e 1 v n p/\NM (Ow v) m b :=
 ⟨zi l (λk _ q e=>hF.fr.block k q (λt=>o k e (h.turns k t).2)),o.on (λk e=>(l.lt k e).2) hF⟩
theorem Ch.QB (h:Ch S w N m f c i j)(l:∀k,P k->w.heap.size<=k):NM P m f:=λk n e=>by have:=h.mm.PB k e;have:=l k n;omega
end
end
section
variable {l:List Int} {v:Xv}
theorem SJ {c:Cd}{ah cells:List Int}{a i:Nat}:∀j,Mp c ah a cells (i+j)=((Mp c ah a cells i).1++(Mp c ah (a+i) (Mp c ah a cells i).2 j).1,(Mp c ah (a+i) (Mp c ah a cells i).2 j).2)
 | 0=>by simp[Mp]
 | j+1=>by rw[<- Nat.add_assoc,Mp,SJ j,Mp];simp only[bw,Nat.add_assoc]
theorem Vb (w:Xw){q:Array Oper}{d:List Oper}{o:Oper}{a:Act}{Q:Exit->Act->World->Prop}(p:o.guard=none)(s x:Operand)(F:o.op=.call { callee:=.builtin .append,args:=#[s,x],argTypes:=#[32,32] })
 (B K:Nat) (v J:Xv) (n m:Nat) (f i:List Int) (G:a.eval s=v) (b:w.ownsRow B 2 1 v n (zK f)) (H:a.eval x=J) (c:w.ownsRow K 2 1 J m (zK i)) (Y:n+m<=100000) (T:B<=w.heap.size)
 (h:∀r t,t.ownsRow B 2 1 r (n+m) (zK (f++i))->Fr (λk=>v.ownBlock=some k) w t->(∀k,r.ownBlock=some k->v.ownBlock=some k∨w.heap.size<=k)->wpList prog q Q d (a.put o.dst r) t):wpList prog q Q (o::d) a w:=by
 obtain⟨I,E,A,C,D⟩:=info_parts Tryz.Pz;have N:zK (f++i)=zK f++zK i:=by simp[zK]
 rw[N] at h;rcases c.2 with ⟨z,M⟩|⟨g,y,L,z,_⟩
 . subst z M;have X:zK i=[]:=List.eq_nil_of_length_eq_zero (by have:=c.1;omega);have W:=run_append_owned_none (P:=prog) w B 32 o.type 2 I 1 underlying32 E v n (zK f) b;refine wpList_plain p λ_ U=>?_;unfold Oper.wp execOp;simp only[F,resolve,invoke,builtin,Sem.run_bind,Sem.run_pure,Result.andThen_ok,List.map_toArray,List.map_cons,List.map_nil,G,H,W];exact U _ _ (h v w (by rw[X,List.append_nil];exact b) (Fr.refl _ _) (λk e=>.inl e))
 subst z;exact o4 w p s x 32 F B 2 I _ 1 8 underlying32 E A C D rfl (by decide) v n (zK f) G b (xD g 0) m y (zK i) H (by have:=c.1;omega) (λj u V=>c.cells (g:=g) rfl j u V) Pk (by unfold maxLen;omega) (by omega) T (λr t O R S=>h r t O (Fr.gi R) S)
section
variable {S:Xs} {N:Nat} {g W f:Xw} {a b:Ma} {d c s:Xv} {i n:Cd} {q o r p w x:List Int}
structure Fs (S:Xs) (N:Nat) (g:Xw) (a b:Ma) (i n:Cd) (d c:Xv) (q o r p:List Int) (W:Xw):Prop where
 ra:Ch S W N a d i q r
 rb:Ch S W N b c n o p
 ab:NM (b.own c) a d
 aH:Below N g W
structure Rw (W:Xw) (a b:Ma) (d c v:Xv) (l:List Int):Prop where
 own:W.ownsRow 0 2 1 v l.length (zK l)
 oa:NM (Ow v) a d
 ob:NM (Ow v) b c
theorem Fs.swap (h:Fs S N g a b i n d c q o r p W):Fs S N g b a n i c d o q p r W:=⟨h.rb,h.ra,h.ab.symm,h.aH⟩
theorem Rw.swap (h:Rw W a b d c v l):Rw W b a c d v l:=⟨h.own,h.ob,h.oa⟩
theorem SE {T:Xj}(h:Below N g W)(hF:Fr T W f)(j:∀k,T k->N<=k)(e:N<=W.heap.size):Below N g f:=h.trans (hF.below e j)
theorem Fs.run (h:Fs S N g a b i n d c q o r p W)(m:Ch S f N a s i w x)(hF:fV a.mb a.b1 a.b2 W d f s):Fs S N g a b i n s c w o x p f:=by obtain⟨e,j⟩:=h.ra.TY h.rb hF h.ab;exact⟨m,e,j,SE h.aH hF.fr (λk t=>(h.ra.turns k t).1) h.ra.sz⟩
theorem Rw.run (h:Rw W a b d c v l)(k:Fs S N g a b i n d c q o r p W)(hF:fV a.mb a.b1 a.b2 W d f s):Rw f a b s c v l:=by obtain⟨e,j⟩:=k.ra.Us h.own hF h.oa;exact⟨e,j,h.ob⟩
theorem Rw.of (u:Fs S N g a b i n d c q o r p W)(t:f.ownsRow W.heap.size 2 1 v l.length (zK l))(y:∀j,v.ownBlock=some j->¬s.ownBlock=some j):Rw f a b s c v l:=by
 have m:∀k,Ow v k->W.heap.size<=k:=λk e=>(t.lt k e).1;refine⟨zR t (aE _),λk e e'=>?_,u.rb.QB m⟩;have h:=u.ra.QB m k e;rcases e' with e'|e'|e'|e'|e'|e'|e'|e'|e'
 . exact h (.inl e')
 . exact h (.inr (.inl e'))
 . exact h (.inr (.inr (.inl e')))
 . exact h (.inr (.inr (.inr (.inl e'))))
 . exact h (.inr (.inr (.inr (.inr (.inl e')))))
 . exact h (.inr (.inr (.inr (.inr (.inr (.inl e'))))))
 . exact h (.inr (.inr (.inr (.inr (.inr (.inr (.inl e')))))))
 . exact h (.inr (.inr (.inr (.inr (.inr (.inr (.inr (.inl e'))))))))
 exact y k e e'
theorem Fs.aq (h:Fs S N g a b i n d c q o r p W)(e:xB W f):Fs S N g a b i n d c q o r p f:=⟨h.ra.aq e,h.rb.aq e,h.ab,h.aH.trans (e.mono h.ra.sz)⟩
theorem Rw.aq (h:Rw W a b d c v l)(e:xB W f):Rw f a b d c v l:=⟨zi h.own (λk _ j _=>e.block k j),h.oa,h.ob⟩
theorem Fs.row (h:Fs S N g a b i n d c q o r p W)(j:Rw W a b d c v l)(e:∀k,v.ownBlock=some k->N<=k)(hF:Fr (λk=>v.ownBlock=some k) W f):Fs S N g a b i n d c q o r p f :=
 ⟨h.ra.apart hF (λk t=>⟨e k t,j.oa k t⟩),h.rb.apart hF (λk t=>⟨e k t,j.ob k t⟩),h.ab,SE h.aH hF e h.ra.sz⟩
theorem Rw.row {u:Xv}{m:List Int}(h:Rw W a b d c u m)(j:∀k,u.ownBlock=some k->¬v.ownBlock=some k)(hF:Fr (λk=>v.ownBlock=some k) W f):Rw f a b d c u m :=
 ⟨zi h.own (λk _ t e=>hF.block k t (j k e)),h.oa,h.ob⟩
theorem Rw.more {m:Xv}{l':List Int}(u:Fs S N g a b i n d c q o r p W)(h:Rw W a b d c v l)(y:f.ownsRow 0 2 1 m l'.length (zK l'))(t:∀k,m.ownBlock=some k->v.ownBlock=some k∨W.heap.size<=k):Rw f a b d c m l':=by
 refine⟨y,λk e j=>?_,λk e j=>?_⟩
 . rcases t k e with e2|e2
   . exact h.oa k e2 j
   have:=u.ra.mm.PB k j;omega
 rcases t k e with e2|e2
 . exact h.ob k e2 j
 have:=u.rb.mm.PB k j;omega
end
end
section
theorem TS {c:Cd}{ah cells:List Int}{a:Nat}(d:OW c)(b:Mt c.al c.cells.length 0 c.row=some 0):∀j,(Mp c ah a cells j).1.length=j*c.aG
 | 0=>by simp[Mp]
 | j+1=>by
   have e:(N3 c.dn (NQ c.dn.length ah (a+j))).length=c.dn.length:=by
    unfold N3;split
    . rw[Qu,Qv]
    rw[Qv]
   rw[Mp];simp only[aP];rw[TS d b j,Q8 d b e,Nat.succ_mul]
end
end Go.Proofs.YtbicmofihhjgbaaGreatDoor
