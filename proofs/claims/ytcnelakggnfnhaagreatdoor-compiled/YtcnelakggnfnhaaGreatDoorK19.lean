/- Part 20. -/
import Derived.LoopIn
import Derived.LoopNIn
import Derived.OwnWalkIn
import Derived.RangeFuncBound
import Derived.RangeFuncCalls
import Derived.RangeFuncLeaves
import Derived.RangeFuncNested
import Derived.Shelf.Abstract
import Derived.Shelf.RegionOpen
import Derived.TacticsInMore
import Derived.Test.YtcnelakggnfnhaaGreatDoorK18
set_option maxRecDepth 100000
set_option maxHeartbeats 8000000
namespace Go.Proofs.YtcnelakggnfnhaaGreatDoor
open Go.Proofs.Tryz
section
open Go.RowKit
variable {N:Nat} {c:Sc} {a b:Xv}
attribute [local go_sem ↓] Go.wp_at_zero Go.wp_at_succ
def Oo (c:Sc)(L:List (Nat×Nat))(q o:Qn):Bool:=o.ns.any λs=>decide ((c.idx (q.ns.headD ⟨#[]⟩),c.idx s)∈L)
theorem WV {α:Type}{f:α->Bool}{l:List α}{k:Nat}{x:α}(h:l[k]?=some x):(l.drop k).any f=(f x||(l.drop (k+1)).any f):=by obtain⟨d,e⟩:=aB.1 h;rw[dE d,List.any_cons,e]
theorem Wl {mb:Nat}{L:List (Nat×Nat)}(q o:Qn)(bC bE lo ro:Xv)(u:1<=q.ns.length)(C:q.ns.length=q.ps.length)(T:o.ns.length=o.ps.length)(w:Xw)(h:br w N c a b)(hN:N<=w.heap.size)(bt:dN w mb L)(Y:aak w N q bC bE)(S:aak w N o lo ro) :
 xK 124 #[.agg #[a,b],.map (some mb),.agg #[bC,xI q.a,bE],.agg #[lo,xI o.a,ro]] w (λe m=>e=.returned (.bool (Oo c L q o))/\xB w m):=by
 obtain⟨be,G,nb,rfl,rfl,ca⟩:=h.shape;obtain⟨cn,a2,rfl⟩:=zB Y.own;obtain⟨cd,co,rfl⟩:=zB S.own;obtain⟨cb,_,_,rfl,_⟩:=Y.tt.ptr;obtain⟨rc,_,_,rfl,_⟩:=S.tt.ptr;obtain⟨s,J,D⟩:∃s J,q.ns=s::J:=by
  cases hx:q.ns with
  | nil=>rw[hx] at u;simp at u
  | cons s J=>exact⟨s,J,rfl⟩
 obtain⟨p,pp,X⟩:∃p pp,q.ps=p::pp:=by
  cases hx:q.ps with
  | nil=>rw[hx] at C;simp at C;rw[C] at u;simp at u
  | cons s J=>exact⟨s,J,rfl⟩
 obtain⟨A,rfl,bq,bs⟩:=kG Y.own (k:=0) (s:=s) (p:=p) (by rw[D];rfl) (by rw[X];rfl) rfl;have b3:=Y.lo A rfl;have b0:o.ns.length<=9223372036854775807:=by
  rcases S.own.2 with ⟨_,h⟩|⟨g,bL,bY,hv,_,_,h3,h4,_⟩
  . omega
  unfold maxLen at h4;omega
 have hM:Oo c L q o=(o.ns.drop 0).any λz=>decide ((c.idx s,c.idx z)∈L):=by unfold Oo;rw[D];rfl
 have a4:(0:Int)<(q.ns.length:Int):=by omega
 have a6:0<q.ns.length:=u;have a5:¬q.ns=[]:=by rw[D];simp
 have F:=za hM;have aL:=za h;have bK:=za bt;have bg:=za S;have a1:=za T;have aV:=za bq;have a0:=za bs;clear h bt Y S hM D X C T bq bs u;go_enter func124,ntmps124;go_upto_region 1 with fail;refine zn (λW=>(xB w W)/\xH W w.heap.size #[xE be c G,xP nb] 73/\xH W (w.heap.size+1) #[xS A q.ns.length a2,xI q.a,xP cb] 159/\xH W (w.heap.size+1+1) #[.slice cd o.ns.length co,xI o.a,xP rc] 159) ⟨mg w _ _ _,(iu w _ _ _).1,(iu w _ _ _).2.1,(iu w _ _ _).2.2⟩ ?_;rintro W ⟨hB,bv,bx,bA⟩;obtain⟨z0,ce,z2,cg,cE⟩:=zL bA;have E:=za hB;have bk:=za bv;have bl:=za bx;clear hB bv bx bA;go_wp2_with fail;go_loopg [14] (o.ns.length+1) (λj i wr=>∃k:Nat,k+j=o.ns.length+1/\k<=o.ns.length/\i=xI k/\aa (xB w wr)/\aa (xB W wr)/\aa (Oo c L q o=(o.ns.drop k).any λz=>decide ((c.idx s,c.idx z)∈L)));case atStart=>exact⟨0,by omega,aE _,rfl,E.o,yS _ _,F.o⟩
 case round =>
  clear z0 ce z2 cg E F;obtain⟨k,b4,cl,rfl,E,K,F⟩:=hrel;by_cases a9:k<o.ns.length
  . obtain⟨z,I⟩:∃s,o.ns[k]?=some s:=⟨_,av a9⟩;obtain⟨p',U⟩:∃p,o.ps[k]?=some p:=⟨_,av (by have:=a1.o;omega)⟩;have hO:=zm E.o hN;obtain⟨gl,rfl,c0,c1⟩:=kG (bg.o.am hO).own I U rfl;have bB:=bg.o.lo gl rfl;have bb:=E.o.size;have P:=za F.o;rw[WV I] at P;clear F I U hO;go_upto_region 4 with fail;refine zn (λV=>(xB wr V)/\xH V wr.heap.size #[.string z,xI p'] 78) ⟨zq wr _,zc wr _⟩ ?_;rintro V ⟨Z,R⟩;have a3:=K.o.size;have b1:=Z.size;have B:=K.o.trans (Z.mono a3);have v:=E.o.trans (Z.mono bb);obtain⟨x0,x1,cm,cs⟩:=zp ((B.block _ (ze bk.o)).trans bk.o);obtain⟨ct,cv,cz,cA,cB⟩:=zL ((B.block _ (ze bl.o)).trans bl.o);obtain⟨n0,n1,nf,nz⟩:=zp R;have ch:=zd v aV.o (by omega);have ck:=zd v a0.o (by omega);have b2:A<V.heap.size:=by omega
    have H:=aL.o.am (zm v hN);have y:N<=V.heap.size:=(by omega);have M:=za (hW s (p:Int) V.drew (H.am (λ_ _=>rfl)) y);have O:=za (λbo (l:xB V bo)=>hW z (p':Int) bo (H.am (zm l y)) (aJ y l.size));have r:=za (λbp (n:xB V bp)=>pc (c.idx s) (c.idx z) bp ((bK.o.aq v).aq n));have Q:=za v;have aA:=za B;clear Z R B v H c0 c1;cases ar:decide ((c.idx s,c.idx z)∈L) with
    | true =>
      rw[ar] at r P;clear ar
      go_region_held3 (λm=>m.cell? (xD w.heap.size 0)=some (xE be c G)/\m.cell? (xD w.heap.size 1)=some (xP nb)/\m.cell? (xD (w.heap.size+1) 0)=some (xS A q.ns.length a2)/\m.cell? (xD A 0)=some (.string s)/\m.cell? (xD A 1)=some (xI p)/\m.cell? (xD wr.heap.size 0)=some (.string z)/\m.cell? (xD wr.heap.size 1)=some (xI p'))
       (first|(with_reducible (refine⟨?_,?_,?_,?_,?_,?_,?_⟩ <;> repeat (first|assumption|refine zg ?_|refine zj _ ?_|refine zk (by omega) ?_|refine zd t.o ?_ (by first|omega|(rw[au];omega))|refine zd f.o ?_ (by first|omega|(rw[au];omega))|refine zd d.o ?_ (by first|omega|(rw[au];omega)))))|go_keep)
       (first
         | (go_at_call 115;refine (r.o _ f.o).mono ?_;rintro e w3 ⟨rfl,x⟩;have t:=za (f.o.trans (x.mono f.o.size));clear x)
         | (go_at_call 61;refine (O.o _ d.o).mono ?_;rintro e w2 ⟨rfl,n⟩;have f:=za (d.o.trans (n.mono d.o.size));clear n)
         | (go_at_call 61;refine M.o.mono ?_;rintro e w1 ⟨rfl,l⟩;have d:=za (zw l);clear l))
      go_wp2_with fail;go_ret;rw[P.o];exact⟨rfl,Q.o.trans (t.o.mono (by omega))⟩
    | false =>
      rw[ar] at r P;clear ar
      go_region_held3 (λm=>m.cell? (xD w.heap.size 0)=some (xE be c G)/\m.cell? (xD w.heap.size 1)=some (xP nb)/\m.cell? (xD (w.heap.size+1) 0)=some (xS A q.ns.length a2)/\m.cell? (xD A 0)=some (.string s)/\m.cell? (xD A 1)=some (xI p)/\m.cell? (xD wr.heap.size 0)=some (.string z)/\m.cell? (xD wr.heap.size 1)=some (xI p'))
       (first|(with_reducible (refine⟨?_,?_,?_,?_,?_,?_,?_⟩ <;> repeat (first|assumption|refine zg ?_|refine zj _ ?_|refine zk (by omega) ?_|refine zd t.o ?_ (by first|omega|(rw[au];omega))|refine zd f.o ?_ (by first|omega|(rw[au];omega))|refine zd d.o ?_ (by first|omega|(rw[au];omega)))))|go_keep)
       (first
         | (go_at_call 115;refine (r.o _ f.o).mono ?_;rintro e w3 ⟨rfl,x⟩;have t:=za (f.o.trans (x.mono f.o.size));clear x)
         | (go_at_call 61;refine (O.o _ d.o).mono ?_;rintro e w2 ⟨rfl,n⟩;have f:=za (d.o.trans (n.mono d.o.size));clear n)
         | (go_at_call 61;refine M.o.mono ?_;rintro e w1 ⟨rfl,l⟩;have d:=za (zw l);clear l))
      go_wp2_with fail;go_roundg (gk-1);case measure=>omega
      exact⟨k+1,by omega,by omega,by go_num,Q.o.trans (t.o.mono (by omega)),aA.o.trans (t.o.mono (by omega)),by unfold aa;rw[P.o,Bool.false_or]⟩
  have ek:k=o.ns.length:=by omega
  subst ek;rw[List.drop_length,List.any_nil] at F;go_wp2_with fail;go_ret;rw[F.o];exact⟨rfl,E.o⟩
theorem SO (f:Nat)(w:Xw)(g:br w N c a b)(q:N<=w.heap.size) :
 xK 25 #[.agg #[a,b],xI (f:Int)] w (λe l=>∃n i,e=.returned (xP n)/\w.heap.size<=n/\w.heap.size<=i/\¬n=i/\Ng N n i f c a b (.slice none 0 0) l/\xB w l):=by
 obtain⟨u,j,s,rfl,rfl,y⟩:=g.shape;go_enter func25,ntmps25;go_upto_region 1 with fail;refine zn (λW=>(xB w W)/\xH W w.heap.size #[xE u c j,xP s] 73) ⟨zq w _,zc w _⟩ ?_;rintro W ⟨m,x⟩;obtain⟨B,C,D,E⟩:=zp x;have k:=m.size;have v:=za (xf W.drew ((g.am (zm m q)).am (λ_ _=>rfl)) (by show N<=W.heap.size;omega))
 go_region_held3 (λl=>l.cell? (xD w.heap.size 0)=some (xE u c j)/\l.cell? (xD w.heap.size 1)=some (xP s))
  (first|(with_reducible (refine⟨?_,?_⟩ <;> repeat (first|assumption|refine zg ?_|refine zj _ ?_|refine zk (by omega) ?_|refine zd d.o ?_ (by first|omega|(rw[au];omega)))))|go_keep)
  (first|(go_at_call 55;refine v.o.mono ?_;rintro e t ⟨i,rfl,p,h,o⟩;have d:=za (zw o);have r:W.heap.size<=i:=p))
 all_goals go_wp2_with fail
 all_goals go_ret
 all_goals have A:=h.lt
 all_goals have z:=d.o.size
 all_goals exact⟨_,_,rfl,by omega,by omega,by omega,⟨zc t _,g.am (zm (jh (m.trans (d.o.mono k)) (an _) _) q),h.aq (zq t _),by rw[au];omega⟩,jh (m.trans (d.o.mono k)) (an _) _⟩
end
section
open Go.RowKit
variable {L:List (Nat×Nat)} {B N d g t a p pr r:Nat} {c:Sc} {x y u:Xv} {w z:Xw}
attribute [local go_sem ↓] Go.wp_at_zero Go.wp_at_succ
abbrev Os:=List Bool×List Qn
def Nc (b:Nat->Os->Os)(c:Sc)(L:List (Nat×Nat))(q:Qn):List Qn->Nat->Os->Os
 | [],_,s=>s
 | o::l,j,s=>Nc b c L q l (j+1) (if Oo c L q o=true then b j s else s)
def Mv (c:Sc)(L:List (Nat×Nat))(b:List Qn):Nat->Nat->Os->Os
 | 0,_,s=>s
 | f+1,i,s =>
   match b[i]? with
   | none=>s
   | some q=>if s.1.getD i false=true then s else ((Nc (Mv c L b f) c L q b 0 (s.1.set i true,s.2)).1,(Nc (Mv c L b f) c L q b 0 (s.1.set i true,s.2)).2++[q])
def OV (b:Nat->Os->Os)(n:Nat):Nat->Os->Os
 | 0,s=>s
 | m+1,s=>OV b n m (b (n-(m+1)) s)
def Mr (c:Sc):List Qn:=(OV (Mv c c.hI c.nd.eqs c.nd.eqs.length) c.nd.eqs.length c.nd.eqs.length (List.replicate c.nd.eqs.length false,[])).2
theorem QR:∀(l:Xk) (i:Nat),l[i]?=some false->(l.set i true).count false+1=l.count false:=by
 intro l;induction l with
 | nil=>intro i h;simp at h
 | cons b l e =>
   intro i h;cases i with
   | zero=>simp at h;subst h;simp
   | succ i => simp at h;have:=e i h;rw[Q5,List.count_cons,List.count_cons];omega
theorem QW (c:Sc)(L:List (Nat×Nat))(b:List Qn):∀(f i:Nat) (s:Os),(Mv c L b f i s).1.length=s.1.length/\(s.1.length=b.length->(Mv c L b f i s).1.count false<=s.1.count false):=by
 intro f;induction f with
 | zero=>intro i s;exact⟨rfl,λ_=>an _⟩
 | succ f F =>
   have D:∀(q:Qn) (l:List Qn) (j:Nat) (s:Os),(Nc (Mv c L b f) c L q l j s).1.length=s.1.length/\(s.1.length=b.length->(Nc (Mv c L b f) c L q l j s).1.count false<=s.1.count false):=by
    intro q l;induction l with
    | nil=>intro j s;exact⟨rfl,λ_=>an _⟩
    | cons o l n =>
      intro j s;rw[Nc];obtain⟨e,k⟩:=n (j+1) (if Oo c L q o=true then Mv c L b f j s else s);by_cases A:Oo c L q o=true
      . rw[ag A] at e k ⊢;obtain⟨v,C⟩:=F j s;exact⟨e.trans v,λh=>aJ (k (v.trans h)) (C h)⟩
      rw[ae A] at e k ⊢;exact⟨e,k⟩
   intro i s;rw[Mv];split
   . exact⟨rfl,λ_=>an _⟩
   rename_i q E
   split
   . exact⟨rfl,λ_=>an _⟩
   rename_i m
   obtain⟨e,k⟩:=D q b 0 (s.1.set i true,s.2);refine⟨by rw[e];simp,λh=>aJ (k (by simpa using h)) ?_⟩;have G:=(aB.1 E).1;have:s.1[i]?=some false:=(by rw[List.getD_eq_getElem?_getD] at m;rw[av (by omega)] at m ⊢;simp at m;rw[m]);have:=QR s.1 i this
   show (s.1.set i true).count false<=_;omega
theorem j2.snoc {q:Qn}{i k:Xv}(f:aak w N q i k):∀{b:List Qn} {e:Xm},j2 w N b e->j2 w N (b++[q]) (e++[i,xI q.a,k]):=by
 intro b;induction b with
 | nil=>intro e h;cases h;exact⟨i,k,[],rfl,f.own,f.lo,f.tt,rfl⟩
 | cons A b s => rintro e ⟨j,v,C,rfl,l,m,n,o⟩;exact⟨j,v,_,rfl,l,m,n,s o⟩
def OT (pr a:Nat)(w:Xw)(k:Nat):Prop:=k=pr∨k=a∨Pm w a 0 k
def Rh (p r g d a:Nat):Value:=.func (.func 123) #[] #[xP p,xP r,xP g,xP d,xP a]
structure OD (N B t r g p d a pr:Nat):Prop where
 a1:¬r=pr/\¬r=a
 a2:¬g=pr/\¬g=a
 a3:¬p=pr/\¬p=a
 a4:¬d=pr/\¬d=a
 a5:¬t=pr/\¬t=a
 a6:¬pr=a
 b:r<B/\g<B/\p<B/\d<B/\a<B/\pr<B/\t<B
 n:N<=pr/\N<=a
structure OI (N B:Nat) (c:Sc) (x y:Xv) (L:List (Nat×Nat)) (t r g p d a pr:Nat) (u:Xv) (s:Os) (w:Xw):Prop where
 x1:w.heap[p]?=some (.cells #[xS pr c.nd.eqs.length c.nd.eqs.length] 57 (0,0))
 xr:w.heap[pr]?=some (.cells (cZ s.1).toArray 4 (0,0))
 x2:w.heap[r]?=some (.cells #[x,y] 73 (0,0))
 x3:w.heap[g]?=some (.cells #[.map (some t)] 224 (0,0))
 x4:w.heap[d]?=some (.cells #[Rh p r g d a] 184 (0,0))
 x5:w.heap[a]?=some (.cells #[u] 80 (0,0))
 own:∃xs,w.ownsRow B 159 3 u s.2.length xs/\j2 w N s.2 xs
 lk:dN w t L
 sc:br w N c x y
 len:s.1.length=c.nd.eqs.length
 hB:B<=w.heap.size
 NC:N<=B
theorem OI.ot {s:Os}(h:OI N B c x y L t r g p d a pr u s w)(k:Nat):OT pr a w k↔k=pr∨k=a∨u.ownBlock=some k:=by
 obtain⟨i,j,l⟩:=zu h.x5;unfold OT Pm;rw[i];constructor
 . rintro (e|e|⟨v,b,f⟩)
   . exact ao e
   . exact ap (ao e)
   cases b;exact ap (ap f)
 rintro (e|e|e)
 . exact ao e
 . exact ap (ao e)
 exact ap (ap ⟨_,rfl,e⟩)
theorem OI.aq {s:Os}(h:OI N B c x y L t r g p d a pr u s w)(b:xB w z):OI N B c x y L t r g p d a pr u s z:=by obtain⟨j,e,f⟩:=h.own;exact⟨(b.block _ (ze h.x1)).trans h.x1,(b.block _ (ze h.xr)).trans h.xr,(b.block _ (ze h.x2)).trans h.x2,(b.block _ (ze h.x3)).trans h.x3,(b.block _ (ze h.x4)).trans h.x4,(b.block _ (ze h.x5)).trans h.x5,⟨j,zi e (λk _ i _=>b.block k i),f.am (zm b (aJ h.NC h.hB))⟩,h.lk.aq b,h.sc.am (zm b (aJ h.NC h.hB)),h.len,aJ h.hB b.size,h.NC⟩
theorem OI.tk {s:Os}(h:OI N B c x y L t r g p d a pr u s w)(b:xB w z):∀k,OT pr a z k->OT pr a w k:=λk e=>(h.ot k).2 (((h.aq b).ot k).1 e)
theorem OI.lt {s:Os}(h:OI N B c x y L t r g p d a pr u s w)(b:OD N B t r g p d a pr):∀k,OT pr a w k->N<=k/\k<w.heap.size:=by
 intro k e;obtain⟨i,f,_⟩:=h.own;have:=h.NC;rcases (h.ot k).1 e with e|e|e
 . subst e;exact⟨b.n.1,ze h.xr⟩
 . subst e;exact⟨b.n.2,ze h.x5⟩
 have:=f.lt k e;exact⟨by omega,this.2⟩
theorem OI.mark {s:Os}(h:OI N B c x y L t r g p d a pr u s w)(f:OD N B t r g p d a pr)(i:Nat) :
 OI N B c x y L t r g p d a pr u (s.1.set i true,s.2) (w.setCell (xD pr i) (.bool true))/\FT (OT pr a) w (w.setCell (xD pr i) (.bool true)):=by
 obtain⟨C,o,q⟩:=h.own;have v:=f.b;have m:=f.n;have b:∀k,¬k=pr->(w.setCell (xD pr i) (.bool true)).heap[k]?=w.heap[k]?:=λk b=>zr b rfl;have n:(w.setCell (xD pr i) (.bool true)).heap.size=w.heap.size:=by simp
 have l:bV N w (w.setCell (xD pr i) (.bool true)):=λk A=>b k (by omega);have j:OI N B c x y L t r g p d a pr u (s.1.set i true,s.2) (w.setCell (xD pr i) (.bool true)):=by refine⟨(b _ f.a3.1).trans h.x1,?_,(b _ f.a1.1).trans h.x2,(b _ f.a2.1).trans h.x3,(b _ f.a4.1).trans h.x4,(b _ (λe=>f.a6 e.symm)).trans h.x5,⟨C,zi o (λk D _ _=>b k (by omega)),q.am l⟩,h.lk.gh (b _ f.a5.1),h.sc.am l,by simpa using h.len,by rw[n];exact h.hB,h.NC⟩;rw[zh _ _ _ _ h.xr,HU]
 refine⟨j,⟨rfl,rfl,rfl,by rw[n];exact an _,λk _ m=>b k (λe=>m ((h.ot k).2 (ao e)))⟩,λk e=>ao ((h.ot k).2 ((j.ot k).1 e))⟩
theorem OI.kZ {b:Xv}{s:Os}{j:Xw}{X:Obj}(h:OI N B c x y L t r g p d a pr u s w)(l:OD N B t r g p d a pr)(q:Qn)(I J:Xv)(Q:aak w N q I J)(hF:Fr (λk=>u.ownBlock=some k) (w.alloc X) j)(K:Xm)(H:j2 w N s.2 K)
 (E:j.ownsRow B 159 3 b (s.2.length+1) (K++[I,xI q.a,J])) (D:∀k,b.ownBlock=some k->u.ownBlock=some k∨w.heap.size+1<=k) :
 OI N B c x y L t r g p d a pr b (s.1,s.2++[q]) (j.setCell (xD a 0) b)/\FT (OT pr a) w (j.setCell (xD a 0) b):=by
 obtain⟨_,m,_⟩:=h.own;have f:=l.b;have C:=l.n;have T:=h.hB;have G:=h.NC;have R:(w.alloc X).heap.size=w.heap.size+1:=by simp
 have U:(j.setCell (xD a 0) b).heap.size=j.heap.size:=by simp
 have S:=hF.size;have n:∀k,k<w.heap.size->¬u.ownBlock=some k->j.heap[k]?=w.heap[k]?:=λk o C=>(hF.block k (by omega) C).trans (mm _ _ _ o);have A:∀k,k<B->¬u.ownBlock=some k:=λk o e=>by have:=(m.lt k e).1;omega
 have o:∀k,k<w.heap.size->¬k=a->¬u.ownBlock=some k->(j.setCell (xD a 0) b).heap[k]?=w.heap[k]?:=λk m F M=>zr F (n k m M);have i:∀k,k<B->¬k=a->(j.setCell (xD a 0) b).heap[k]?=w.heap[k]?:=λk m F=>o k (by omega) F (A k m);have P:bV N w (j.setCell (xD a 0) b):=λk v=>i k (by omega) (by omega);have O:OI N B c x y L t r g p d a pr b (s.1,s.2++[q]) (j.setCell (xD a 0) b):=by
  refine⟨(i _ f.2.2.1 l.a3.2).trans h.x1,(i _ f.2.2.2.2.2.1 l.a6).trans h.xr,(i _ f.1 l.a1.2).trans h.x2,(i _ f.2.1 l.a2.2).trans h.x3,(i _ f.2.2.2.1 l.a4.2).trans h.x4,?_,⟨K++[I,xI q.a,J],?_,(j2.snoc Q H).am P⟩,h.lk.gh (i _ f.2.2.2.2.2.2 l.a5.2),h.sc.am P,h.len,by omega,G⟩
  . exact zh _ _ _ _ ((n a (by omega) (A a f.2.2.2.2.1)).trans h.x5)
  show World.ownsRow _ B _ 3 b (s.2++[q]).length _;rw[aP];exact zi E (λk M _ _=>zr (by omega) rfl)
 refine⟨O,⟨hF.os,hF.tape,hF.output,by omega,λk v C=>o k v (λe=>C ((h.ot k).2 (ap (ao e)))) (λe=>C ((h.ot k).2 (ap (ap e))))⟩,λk e=>?_⟩;rcases (O.ot k).1 e with e|e|e
 . exact ao ((h.ot k).2 (ao e))
 . exact ao ((h.ot k).2 (ap (ao e)))
 rcases D k e with e2|e2
 . exact ao ((h.ot k).2 (ap (ap e2)))
 exact ap (by omega)
end
section
open Go.RowKit
attribute [local go_sem ↓] Go.wp_at_zero Go.wp_at_succ
theorem SU (c:Sc)(L:List (Nat×Nat))(a:List Qn):∀(f i:Nat) (s:Os),s.1.length=a.length->(Mv c L a f i s).2.length+(Mv c L a f i s).1.count false<=s.2.length+s.1.count false:=by
 intro f;induction f with
 | zero=>intro i s _;exact an _
 | succ f p =>
   have m:∀(q:Qn) (l:List Qn) (j:Nat) (s:Os),s.1.length=a.length->(Nc (Mv c L a f) c L q l j s).2.length+(Nc (Mv c L a f) c L q l j s).1.count false<=s.2.length+s.1.count false:=by
    intro q l;induction l with
    | nil=>intro j s _;exact an _
    | cons o l d =>
      intro j s b;rw[Nc];by_cases g:Oo c L q o=true
      . rw[ag g];exact aJ (d _ _ ((QW c L a f j s).1.trans b)) (p j s b)
      rw[ae g];exact d _ _ b
   intro i s b;rw[Mv];split
   . exact an _
   rename_i q n
   split
   . exact an _
   rename_i e
   have h:=m q a 0 (s.1.set i true,s.2) (by simpa using b);have t:=(aB.1 n).1;have k:s.1[i]?=some false:=(by rw[List.getD_eq_getElem?_getD] at e;rw[av (by omega)] at e ⊢;simp at e;rw[e]);have r:=QR s.1 i k;simp only[aP,List.length_singleton] at h ⊢;omega
theorem V3 (a:Nat->Os->Os)(c:Sc)(L:List (Nat×Nat))(q:Qn){l:List Qn}{k:Nat}{o:Qn}(h:l[k]?=some o)(s:Os):Nc a c L q (l.drop k) k s=Nc a c L q (l.drop (k+1)) (k+1) (if Oo c L q o=true then a k s else s):=by obtain⟨b,d⟩:=aB.1 h;rw[dE b,Nc,d]
theorem YB {a b:Xp}{n c:Nat}{x:Int}:∀u∈[Value.slice a n c,xI x,.pointer b],u.oneCell'=true:=by simp[Value.oneCell']
theorem V5 {N B:Nat}{c:Sc}(hc:eU c){xe:Xp}{cpe nb:Nat}{L:List (Nat×Nat)}{mb ar K r X t pr:Nat}(I:OD N B mb ar K r X t pr)(eq:c.nd.eqs.length<=1000000) :
 ∀(f i:Nat) (s:Os) (V:Xv) (w:Xw),i<c.nd.eqs.length->s.1.count false<=f->s.2.length+s.1.count false<=c.nd.eqs.length->OI N B c (xE xe c cpe) (xP nb) L mb ar K r X t pr V s w ->
  xK 123 #[xI (i:Int),xP r,xP ar,xP K,xP X,xP t] w (λe w'=>e=.returned (.tuple #[])/\(∃p,OI N B c (xE xe c cpe) (xP nb) L mb ar K r X t pr p (Mv c L c.nd.eqs f i s) w')/\FT (OT pr t) w w'):=by
 intro f;induction f with
 | zero =>
   intro i s V w hi bL b3 h;have a9:s.1[i]?=some true:=by
    have em:=h.len;cases K:s.1[i]? with
    | none=>rw[List.getElem?_eq_none_iff] at K;omega
    | some b =>
      cases b with
      | true=>rfl
      | false=>have:=QR s.1 i K;omega
   obtain⟨ck,cm,cn⟩:=zu h.x1;have cs:=j4 h.xr a9;have ct:=ze h.xr;have a:=za h;have i0:(0:Int)<=(i:Int):=(by omega);have i1:(i:Int)<(c.nd.eqs.length:Int):=(by omega);clear h a9;go_enter func123,ntmps123;go_wp2_with fail;first|go_end0|refine ab (results_none rfl _ _ _) rfl ?_
   exact⟨rfl,⟨V,a.o⟩,FT.below (yS _ _) (λ_ e=>e)⟩
 | succ f bB =>
   intro i s V w hi bL b3 h;obtain⟨ck,cm,cn⟩:=zu h.x1;have ct:=ze h.xr;have i0:(0:Int)<=(i:Int):=(by omega);have i1:(i:Int)<(c.nd.eqs.length:Int):=(by omega);obtain⟨q,Z⟩:∃q,c.nd.eqs[i]?=some q:=⟨_,av hi⟩;obtain⟨b,n⟩:∃b,s.1[i]?=some b:=⟨_,av (by have:=h.len;omega)⟩;have cs:=j4 h.xr n;cases b with
   | true =>
     have bx:aa (Mv c L c.nd.eqs (f+1) i s=s):=(by unfold aa;rw[Mv];simp only[Z];rw[ag (by rw[List.getD_eq_getElem?_getD,n];rfl)]);have a:=za h;clear h n Z;go_enter func123,ntmps123;go_wp2_with fail;first|go_end0|refine ab (results_none rfl _ _ _) rfl ?_
     rw[bx.o];exact⟨rfl,⟨V,a.o⟩,FT.below (yS _ _) (λ_ e=>e)⟩
   | false =>
     obtain⟨s2,R⟩:∃s2,Nc (Mv c L c.nd.eqs f) c L q c.nd.eqs 0 (s.1.set i true,s.2)=s2:=⟨_,rfl⟩;have bx:aa (Mv c L c.nd.eqs (f+1) i s=(s2.1,s2.2++[q])):=(by unfold aa;rw[Mv];simp only[Z];rw[ae (by rw[List.getD_eq_getElem?_getD,n];simp),R]);have c9:=QR s.1 i n;obtain⟨hM,a0⟩:=h.mark I i;have cE:=lh h.xr i;have a2:N<=w.heap.size:=aJ h.NC h.hB;obtain⟨dz,vs,er,xs,cR,l⟩:=h.sc.nd;cases cR;obtain⟨eE,cO,rfl⟩:=zB l.bZ;obtain⟨ex,cK,rfl⟩:=zB l.own;obtain⟨g,lv,rv,rfl,c0,c1,c2,bp⟩:=lj l.own l.eqs Z rfl;obtain⟨bl,_,_,rfl,_⟩:=bp.tt.ptr;obtain⟨bo,cl,rfl⟩:=zB bp.own;have dc:=l.ko g rfl;obtain⟨n0,n1,n2,n3,n4,n5,nf,nz⟩:=zt l.aC;have a5:=l.lo;obtain⟨z0,dV,dY,ea⟩:=zp h.x2;have ds:=I.n.1;have di:¬g=pr:=(by omega);have dp:¬nb=pr:=(by omega);have du:=I.a1.1;have c5:=I.a3.1;have u:=za hM;have aL:=za a0;have H:=za h;have cB:c.nd.eqs.length<=9223372036854775807:=(by omega);have b2:=aM Z;have ch:=za (hc.nd.eqs q b2);have bA:=za (λo Y=>hc.nd.eqs o Y);clear h hM a0 n Z n0 n1 n2 n3 n4;go_enter func123,ntmps123;go_upto_region 3 with fail;refine zn (λW=>OI N B c (xE xe c cpe) (xP nb) L mb ar K r X t pr V (s.1.set i true,s.2) W/\FT (OT pr t) w W/\W.heap[w.heap.size]?=some (.cells #[.slice bo q.ns.length cl,xI q.a,xP bl] 159 (0,0))/\¬OT pr t W w.heap.size) ?_ ?_
     . have bg:(w.setCell (xD pr i) (.bool true)).heap.size=w.heap.size:=(by simp);refine⟨u.o.aq (zq _ _),aL.o.trans (FT.below (zq _ _) (u.o.tk (zq _ _))),?_,λe=>?_⟩
       . have:=zc (w.setCell (xD pr i) (.bool true)) (.cells #[.slice bo q.ns.length cl,xI q.a,xP bl] 159);rw[bg] at this;exact this
       exact absurd (Nat.lt_of_lt_of_eq (u.o.lt I _ (u.o.tk (zq _ _) _ e)).2 bg) (Nat.lt_irrefl _)
     rintro W ⟨bK,hF,cA,a4⟩;have O:bV N w W:=hF.am a2 (λk e=>(H.o.lt I k e).1);obtain⟨u0,u1,uf,uz⟩:=zp bK.x2;obtain⟨n0,n1,n2,n3,n4,n6,b4,ca⟩:=zt ((O nb a5).trans l.aC);have cg:=za bK;have P:=za hF;have D:=za cA;clear bK hF cA O n0 n1 n2 n3 n4 u aL z0 dV dY ea ck cm cn cs cE ct c0 c1 c2 n5 nf nz;go_wp2_with fail;go_loopg [31] (c.nd.eqs.length+1) (λj x wr=>∃(k:Nat) (m:Os) (p:Xv),k+j=c.nd.eqs.length+1/\k<=c.nd.eqs.length/\x=xI k/\m.1.count false<=f/\m.2.length+m.1.count false+1<=c.nd.eqs.length/\aa (OI N B c (xE xe c cpe) (xP nb) L mb ar K r X t pr p m wr)/\aa (Nc (Mv c L c.nd.eqs f) c L q (c.nd.eqs.drop k) k m=s2)/\aa (FT (OT pr t) w wr)/\aa (xH wr w.heap.size #[.slice bo q.ns.length cl,xI q.a,xP bl] 159/\¬OT pr t wr w.heap.size));case atStart=>exact⟨0,(s.1.set i true,s.2),V,by omega,aE _,rfl,by show (s.1.set i true).count false<=f;omega,by show s.2.length+(s.1.set i true).count false+1<=_;omega,cg.o,R,P.o,⟨D.o,a4⟩⟩
     case round =>
      clear cg P D a4 u0 u1 uf uz n6 b4 ca;obtain⟨k,m,p,dl,eb,rfl,bb,be,a,aA,P,D⟩:=hrel;have O:bV N w wr:=P.o.am a2 (λk e=>(H.o.lt I k e).1);by_cases a3:k<c.nd.eqs.length
      . obtain⟨o,Y⟩:∃o,c.nd.eqs[k]?=some o:=⟨_,av a3⟩;have U:=l.am O;obtain⟨g',lo,ro,c3,d0,d1,d2,J⟩:=lj U.own U.eqs Y rfl;cases c3;obtain⟨cd,_,_,rfl,_⟩:=J.tt.ptr;obtain⟨ce,co,rfl⟩:=zB J.own;obtain⟨dL,dM,dP⟩:=zu a.o.x3;obtain⟨u0,u1,uf,uz⟩:=zp a.o.x2;obtain⟨q0,dH,q2,qf,bq⟩:=zL D.o.1;have T:=aA.o;rw[V3 _ _ _ _ Y] at T;have E:=za T;have bk:=bA.o o (aM Y);have a1:N<=wr.heap.size:=aJ a.o.NC a.o.hB;have G:=za (λC=>Wl q o (.slice bo q.ns.length cl) (xP bl) (.slice ce o.ns.length co) (xP cd) ch.o.2.1 ch.o.1 bk.1 (wr.alloc C) (a.o.aq (zq wr C)).sc (by rw[au];omega) (a.o.aq (zq wr C)).lk ((bp.am O).am (OJ a1 C)) (J.am (OJ a1 C)));clear U J Y T O aA bk;cases M:Oo c L q o with
        | false =>
          rw[M] at G E;clear M;go_wp2_with (go_at_call 124;refine (G.o _).mono ?_;rintro e w1 ⟨rfl,z⟩;have d:=za (zE z);clear z);go_roundg (gk-1);case measure=>omega
          exact⟨k+1,m,p,by omega,by omega,by go_num,bb,be,a.o.aq d.o,E.o,P.o.trans (FT.below d.o (a.o.tk d.o)),⟨(d.o.block _ bq).trans D.o.1,λe=>D.o.2 (a.o.tk d.o _ e)⟩⟩
        | true =>
          rw[M] at G E;clear M
          go_wp2_with (first
           | (go_at_call 123;refine (bB k m p w1 a3 bb (by omega) F.o).mono ?_;rintro e w2 ⟨rfl,⟨cb,bv⟩,bt⟩)
           | (go_at_call 124;refine (G.o _).mono ?_;rintro e w1 ⟨rfl,z⟩;have d:=za (zE z);have F:=za (a.o.aq d.o);obtain⟨t0,es,tz⟩:=zu F.o.x4;unfold Rh at t0;clear z))
          go_roundg (gk-1);case measure=>omega
          have c6:=(QW c L c.nd.eqs f k m).2 F.o.len;have R:=SU c L c.nd.eqs f k m F.o.len;have S:=(FT.below d.o (a.o.tk d.o)).trans bt;exact⟨k+1,Mv c L c.nd.eqs f k m,cb,by omega,by omega,by go_num,by omega,by omega,bv,E.o,P.o.trans S,⟨(S.fr.block _ bq D.o.2).trans D.o.1,S.not bq D.o.2⟩⟩
      have ek:k=c.nd.eqs.length:=(by omega);subst ek;rw[List.drop_length,Nc] at aA;obtain rfl:=aA.o;obtain⟨xs,v,bC⟩:=a.o.own;obtain⟨ce,co,rfl⟩:=O6 v;obtain⟨dL,dM,dP⟩:=zu a.o.x5;obtain⟨q0,dH,q2,qf,bq⟩:=zL D.o.1;obtain⟨dw,dk,bY,b0,b1⟩:=info_parts Tryz.AF;have mx:m.2.length+1<=maxLen:=(by unfold maxLen;omega);have bE:(m.2.length+1)*40<=140737488355328:=(by omega);have bs:=za (bp.am O);have c4:=a.o.hB;have dq:=I.b.2.2.2.2.1;clear O aA;go_wp2_with (at_builtin;refine o4 _ rfl (.tmp 45) (.tmp 47) 80 rfl B 159 dw _ 3 40 underlying80 dk bY b0 b1 rfl (by decide) (.slice ce m.2.length co) m.2.length xs rfl (zD v _) (xD wr.heap.size 0) 1 1 [.slice bo q.ns.length cl,xI q.a,xP bl] rfl rfl (zN (zc wr _) rfl) YB mx bE (by simp;omega) ?_;intro v' w9 y A Q;obtain⟨g9,cv,rfl,da⟩:=zM y (by omega);have aV:=Fr.gi A;have a6:=(aV.block t (by simp;omega) (λh=>by have:=(v.lt _ h).1;omega)).trans ((mm _ _ _ (by omega)).trans a.o.x5);obtain⟨v0,ev,vz⟩:=zu a6;clear A a6);first|go_end0|refine ab (results_none rfl _ _ _) rfl ?_
      have cz:=a.o.kZ I q _ _ bs.o aV xs bC y (λk e=>(Q k e).imp id (λh=>by rw[au] at h;exact h));rw[bx.o];exact⟨rfl,⟨_,cz.1⟩,P.o.trans cz.2⟩
end
section
open Go.RowKit
attribute [local go_sem ↓] Go.wp_at_zero Go.wp_at_succ
theorem PW (w:Xw)(a b c d e:Obj) :
 let W:=((((w.alloc a).alloc b).alloc c).alloc d).alloc e
 W.heap[w.heap.size]?=some a/\W.heap[w.heap.size+1]?=some b/\W.heap[w.heap.size+1+1]?=some c/\W.heap[w.heap.size+1+1+1]?=some d/\W.heap[w.heap.size+1+1+1+1]?=some e:=by
 have h (w:Xw) (o:Obj) (k:Nat):(w.alloc o).heap[k]?=if k=w.heap.size then some o else w.heap[k]?:=by show (w.heap.push o)[k]?=_;rw[Array.getElem?_push]
 intro W;refine⟨?_,?_,?_,?_,?_⟩;all_goals simp only[W,h,au]
 all_goals repeat (first|rw[ag trivial]|rw[ag rfl]|rw[ae (by omega)])
theorem Q0 (w:Xw)(a b c d e:Obj):xB w (((((w.alloc a).alloc b).alloc c).alloc d).alloc e):=r3 (mg _ _ _ _)
theorem Wq (a:Nat->Os->Os)(n m:Nat)(s:Os):OV a n (m+1) s=OV a n m (a (n-(m+1)) s):=rfl
theorem WS (n:Nat)(a:n<=3145728)(w:Xw):(Instr.makeSlice 57 (xI (n:Int)) (xI (n:Int))).run prog w=.ok (xS w.heap.size n n) (w.alloc (.cells (cZ (List.replicate n false)).toArray 4)):=yg n a w
theorem V4 {N:Nat}{c:Sc}(ar:eU c)(a9:c.nd.eqs.length<=1000000){ev nv:Xv}(w:Xw)(d:br w N c ev nv)(hN:N<=w.heap.size) :
 xK 58 #[.agg #[ev,nv]] w (λe Y=>∃q A,e=.returned q/\Y.ownsRow w.heap.size 159 3 q (Mr c).length A/\j2 Y N (Mr c) A/\xB w Y):=by
 obtain⟨E,h,z,rfl,rfl,bb⟩:=d.shape;obtain⟨bk,vs,bp,A,a4,p⟩:=d.nd;cases a4;obtain⟨bA,a3,rfl⟩:=zB p.bZ;obtain⟨bx,a2,rfl⟩:=zB p.own;have a6:∀(fn:Go.Fn) (first g:Xa) (w:Xw),(Instr.makeFunc fn first g).run prog w=.ok (.func fn first g) w:=λ_ _ _ _=>rfl;have be:∀(a:Addr) (m:Mode) (fn:Go.Fn) (first g:Xa) (w:Xw),(store a (.func fn first g) m).run prog w=stored prog w a (.func fn first g) m:=λa m _ _ _ w=>run_store prog w a _ m rfl;have mk:=WS c.nd.eqs.length (by omega);have I:=za (λo=>G0 ar (w.alloc o) (d.am (OJ hN o)) (by rw[au];omega));go_enter func58,ntmps58;go_upto_region 2 with (go_at_call 113;refine (I.o _).mono ?_;rintro e b ⟨F,rfl,T,Q,y⟩;have B:=za Q;have D:=za ((y.block _ (by simp)).trans (zc w _));have v:=za (zE y);have C:=y.size);rw[au] at T C;obtain⟨n0,n1,n2,n3,n4,n5,nf,nz⟩:=zt ((v.o.block z (by omega)).trans p.aC);obtain⟨bq,s1,bs,sz⟩:=zp D.out;have aV:=B.o.lt;go_upto_region 6 with fail;have a0:OD N (b.heap.size+5) F w.heap.size b.heap.size (b.heap.size+1+1) (b.heap.size+1+1+1+1) (b.heap.size+1+1+1) (b.heap.size+1):=⟨by omega,by omega,by omega,by omega,by omega,by omega,by omega,by omega⟩;refine zn (λW=>OI N (b.heap.size+5) c (xE E c h) (xP z) c.hI F w.heap.size b.heap.size (b.heap.size+1+1) (b.heap.size+1+1+1+1) (b.heap.size+1+1+1) (b.heap.size+1) (.slice none 0 0) (List.replicate c.nd.eqs.length false,[]) W/\xB w W) ⟨⟨(PW b _ _ _ _ _).2.2.1,(PW b _ _ _ _ _).2.1,((Q0 b _ _ _ _ _).block _ sz).trans D.out,(PW b _ _ _ _ _).1,(PW b _ _ _ _ _).2.2.2.2,(PW b _ _ _ _ _).2.2.2.1,⟨[],World.ownsRow_nil _ _ _ _,rfl⟩,B.o.aq (Q0 b _ _ _ _ _),d.am (zm (v.o.trans ((Q0 b _ _ _ _ _).mono (by omega))) hN),by simp,by simp only[au];omega,by omega⟩,v.o.trans ((Q0 b _ _ _ _ _).mono (by omega))⟩ ?_;rintro W ⟨aL,hB⟩;have a1:=za (V5 (xe:=E) (cpe:=h) (nb:=z) (L:=c.hI) ar a0 a9 c.nd.eqs.length);have n:=za aL;have r:=za hB;have M:∀k (P:Xw) (q:Xv) (s:Os),OI N (b.heap.size+5) c (xE E c h) (xP z) c.hI F w.heap.size b.heap.size (b.heap.size+1+1) (b.heap.size+1+1+1+1) (b.heap.size+1+1+1) (b.heap.size+1) q s P->OT (b.heap.size+1) (b.heap.size+1+1+1) P k->w.heap.size<=k:=by
  intro k P q s d e;obtain⟨A,h1,_⟩:=d.own;rcases (d.ot k).1 e with e|e|e
  . omega
  . omega
  have:=(h1.lt k e).1;omega
 obtain⟨u0,u1,uf,uz⟩:=zp aL.x2;obtain⟨m0,m1,m2,m3,m4,m5,bg,bo⟩:=zt ((hB.block z (by omega)).trans p.aC);go_wp2_with fail;go_loopg [24] (c.nd.eqs.length+1) (λj x wr=>∃(k:Nat) (i:Os) (q:Xv),k+j=c.nd.eqs.length+1/\k<=c.nd.eqs.length/\x=xI k/\aa (i.2.length+i.1.count false<=c.nd.eqs.length)/\aa (OI N (b.heap.size+5) c (xE E c h) (xP z) c.hI F w.heap.size b.heap.size (b.heap.size+1+1) (b.heap.size+1+1+1+1) (b.heap.size+1+1+1) (b.heap.size+1) q i wr)/\aa (Mr c=(OV (Mv c c.hI c.nd.eqs c.nd.eqs.length) c.nd.eqs.length (j-1) i).2)/\aa (xB w wr));case atStart=>exact⟨0,_,_,by omega,aE _,rfl,by simp[aa],n.o,rfl,r.o⟩
 case round =>
  obtain⟨k,i,q,a5,bl,rfl,u,n,Z,r⟩:=hrel;by_cases S:k<c.nd.eqs.length
  . obtain⟨m,rfl⟩:∃m,gk=m+1+1:=⟨gk-1-1,by omega⟩;have aA:=Z.o;rw[show m+1+1-1=m+1 from rfl,Wq,show c.nd.eqs.length-(m+1)=k by omega] at aA;have G:=za aA;obtain⟨t0,bt,tz⟩:=zu n.o.x4;unfold Rh at t0;have K:i.1.count false<=c.nd.eqs.length:=by have:=List.count_le_length (a:=false) (l:=i.1);have:=n.o.len;omega
    have J:=za (a1.o k i q wr S K u.o n.o);go_wp2_with (go_at_call 123;refine J.o.mono ?_;rintro e w2 ⟨rfl,⟨X,H⟩,f⟩);go_roundg (m+1);case measure=>omega
    have U:=SU c c.hI c.nd.eqs c.nd.eqs.length k i n.o.len;have hz:=r.o.size;refine⟨k+1,_,X,by omega,by omega,by go_num,aJ U u.o,H,G.o,⟨f.fr.os.trans r.o.os,f.fr.tape.trans r.o.tape,f.fr.output.trans r.o.output,aJ hz f.fr.size,λV R=>(f.fr.block V (by omega) (λe=>by have:=M V _ _ _ n.o e;omega)).trans (r.o.block V R)⟩⟩
  have ek:k=c.nd.eqs.length:=by omega
  subst ek;have:gk=1:=by omega
  subst this;have G:aa (Mr c=i.2):=Z.o;obtain⟨A,t,O⟩:=n.o.own;obtain⟨bv,co,rfl⟩:=O6 t;obtain⟨bB,bC,bE⟩:=zu n.o.x5;go_wp2_with fail;go_ret;rw[G.o];exact⟨_,rfl,A,zR t (by omega),O,r.o⟩
end
section
open Go.RowKit Go.Shelf
attribute [local go_sem] Oper.semAt_some
def Oz (N b:Nat)(W a:Xw):Prop:=∀k,k=b∨k<N->a.heap[k]?=W.heap[k]?
theorem Oz.cell {N b:Nat}{W a:Xw}(h:Oz N b W a){k o:Nat}{v:Xv}(d:k=b∨k<N)(c:W.cell? (xD k o)=some v):a.cell? (xD k o)=some v:=(Z6 (w:=W) (h k d)).trans c
def MS {α:Type}(f:Nat->α)(n k:Nat):List α:=(List.range k).map λj=>f (n-1-j)
theorem SS {α:Type}(f:Nat->α)(n k:Nat):MS f n (k+1)=MS f n k++[f (n-1-k)]:=by simp[MS,List.range_succ]
theorem QO {α:Type}(f:Nat->α)(n k:Nat):(MS f n k).length=k:=by simp[MS]
abbrev Nx:=Nat×ByteArray×Nat
def Q3 (x:Nx):Array Value:=#[xI (x.1:Int),.agg #[.string x.2.1,xI (x.2.2:Int)]]
def NJ (a:Xl)(b:Xn)(j:Nat):Nx:=(j,a[j]?.getD ⟨#[]⟩,b[j]?.getD 0)
theorem Wr (n:Nat)(R:1<=n)(N l p r F:Nat)(a:Xl)(f:Xn)(o:r<N)(H:a.length<=1000000)(J y:List Nx->World->Prop)
 (K:∀b x W,J b W->b.length<a.length->YieldAt Fence.wide (n-1) prog l (Q3 x) W λe g =>
   (e=.returned (.bool true)/\J (b++[x]) g/\Oz N p W g)∨(e=.returned (.bool false)/\y (b++[x]) g))
 (W:Xw) (s:xC W p 0 (xS r a.length F)) (L:∀j,j<a.length->xC W r (j*2) (.string (a[j]?.getD ⟨#[]⟩))/\xC W r (j*2+1) (xI (f[j]?.getD 0:Nat))) (G:J [] W) :
 CallsIn Fence.wide n prog 128 #[.func (.yield l) #[] #[],xP p] W λe g=>(∃v,e=.returned v) /\
  ((∃C,C=MS (NJ a f) a.length a.length/\J C g)∨(∃b,True/\y b g)):=by
 refine callsIn_of_wp func128 rfl trivial ?_ rfl;simp only[ntmps128,List.size_toArray,bJ,cw,Nat.reduceAdd,Nat.reduceSub,Array.replicate_succ,Array.replicate_zero,List.push_toArray,List.append_toArray,List.nil_append,List.cons_append];gi_wp2
 gi_loopw [3] (λi wr=>∃m:Nat,m<=a.length/\i=xI ((m:Int)-1)/\J (MS (NJ a f) a.length (a.length-m)) wr/\Oz N p W wr)
  (λi _=>(intOf i+1).toNat)
 case atStart=>exact⟨a.length,an _,by go_num,by rw[Nat.sub_self];exact G,λ_ _=>rfl⟩
 case round =>
  obtain⟨m,Q,rfl,d,c⟩:=hrel;cases m with
  | zero =>
    rw[Nat.sub_zero] at d;gi_wp2
    go_end0;exact⟨⟨_,rfl⟩,.inl ⟨_,rfl,d⟩⟩
  | succ m =>
    rw[show (((m+1:Nat):Int)-1)=(m:Int) by omega];obtain⟨fn,B,q,z,M,I⟩:=K _ (NJ a f m) wr d (by rw[QO];omega);obtain⟨D,E⟩:=L m (by omega);have d0:=c.cell (ap o) D;have d1:=c.cell (ap o) E;have P:=c.cell (ao rfl) s;have S:(0:Int)<=(m:Int):=(by omega);have T:(m:Int)<(a.length:Int):=(by omega);dsimp only[Q3,NJ] at M;gi_wp2
    refine I.mono ?_;have w:MS (NJ a f) a.length (a.length-m)=MS (NJ a f) a.length (a.length-(m+1))++[NJ a f m]:=(by rw[show a.length-m=(a.length-(m+1))+1 by omega,SS,show a.length-1-(a.length-(m+1))=m by omega]);rintro e O (⟨rfl,t,u⟩|⟨rfl,h⟩)
    . gi_wp2
      go_roundw
      case rel=>exact⟨m,by omega,by go_num,by rw[w];exact t,λk A=>(u k A).trans (c k A)⟩
      case measure=>simp[intOf]
    gi_wp2
    refine ab (results_none rfl _ _ _) rfl ?_;exact⟨⟨_,rfl⟩,.inr ⟨_,trivial,h⟩⟩
end
section
open Go.RowKit Go.Shelf
variable {K:Cd} {i:Xm} {B q N d b n m p:Nat} {e:Xy} {v:Xv} {W a:Xw}
structure M4 (B:Nat) (W a:Xw):Prop where
 size:W.heap.size<=a.heap.size
 aC:∀k,k<W.heap.size->(k<B∨∃c e f,W.heap[k]?=some (.cells c e f))->a.heap[k]?=W.heap[k]?
theorem M4.of {g:Xo}(j:W.grownBy a g)(u:∀r,g=some r->B<=r/\∃o:Obj,W.heap[r]?=some o/\o.isCells=false):M4 B W a:=by
 refine⟨j.size,λk t h=>j.block k t (λe=>?_)⟩;obtain⟨w,o,l,s⟩:=u k e.symm;rcases h with h|⟨c,e,f,h⟩
 . omega
 rw[l] at h;cases h;simp[Obj.isCells] at s
theorem M4.cells (h:M4 B W a){k:Nat}{c:Xa}{f:Nat×Nat}(g:W.heap[k]?=some (.cells c e f)):a.heap[k]?=some (.cells c e f):=(h.aC k (ze g) (ap ⟨c,e,f,g⟩)).trans g
theorem M4.own (h:M4 B W a)(k:W.ownsRow d e m v n i):a.ownsRow d e m v n i:=by
 refine⟨k.1,?_⟩;rcases k.2 with j|⟨g,c,f,j,l,o,r⟩
 . exact ao j
 exact ap ⟨g,c,f,j,l,h.cells o,r⟩
theorem M4.row (h:M4 B W a)(k:Ni W d e m v n i):Ni a d e m v n i:=by
 refine⟨k.1,?_⟩;rcases k.2 with j|⟨g,o,c,f,j,l,r,s⟩
 . exact ao j
 exact ap ⟨g,o,c,f,j,l,h.cells r,s⟩
theorem M4.am (h:M4 B W a)(f:N<=W.heap.size)(c:N<=B):bV N W a:=λk g=>h.aC k (by omega) (ao (by omega))
theorem KI.sc {f g j:Xv}(h:KI B p b f g j K W)(c:M4 q W a):KI B p b f g j K a :=
 ⟨c.cells h.wr,c.cells h.aC,c.own h.xv,c.own h.hQ,c.own h.zA,h.MF,h.MC,h.dk,h.d1,h.d2,aJ h.hB c.size⟩
theorem WL.sc {l g:Nat}{c:Sc}{r x w:Xv}{u:List Lt}(h:WL N B p b l g d c r x w K u W)(j:M4 q W a)(t:g<q)(s:N<=q):WL N B p b l g d c r x w K u a/\∀k,CT b l a k↔CT b l W k:=by
 obtain⟨C,D,H,y⟩:=h.wi.kw;obtain⟨i,F,G⟩:=h.row;have o:=y.sc j;have f:∀k,KT b a k↔KT b W k:=λk=>(o.kt k).trans (y.kt k).symm;have z:=j.am h.wi.qi.hN s
 have A:WL N B p b l g d c r x w K u a :=
  ⟨⟨⟨C,D,H,o⟩,⟨j.cells h.wi.qi.aC,h.wi.qi.sc.am z,h.wi.qi.ck.gh (j.aC g h.wi.qi.ck.lt (ao t)),aJ h.wi.qi.hN j.size⟩,λe=>h.wi.nq ((f l).1 e),λe=>h.wi.nc ((f g).1 e),h.wi.NN⟩,⟨i,j.row F,G.am z⟩,λk e=>⟨λE=>(h.dl k e).1 ((f k).1 E),(h.dl k e).2⟩,h.dq,h.dw,h.NO⟩
 refine⟨A,λk=>(A.ct k).trans (Iff.trans ?_ (h.ct k).symm)⟩;rw[f k]
theorem FT.sc {T:World->Nat->Prop}{w:Xw}(h:FT T w W)(l:M4 w.heap.size W a)(r:∀k,T a k->T W k)(f:a.os=W.os)(j:a.tape=W.tape)(g:a.output=W.output):FT T w a :=
 ⟨⟨f.trans h.fr.os,j.trans h.fr.tape,g.trans h.fr.output,aJ h.fr.size l.size,λk c o=>(l.aC k (dD c h.fr.size) (ao c)).trans (h.fr.block k c o)⟩,λk e=>h.tk k (r k e)⟩
theorem VF (n:Nat)(D:1<=n)(N f g t:Nat)(c:Xl)(s:Xn)(r:g<N)(h:c.length<=1000000)(w:Xw)(k:f<w.heap.size)(F:N<=w.heap.size)
 (C:xC w f 0 (xS g c.length t)) (u:∀j,j<c.length->xC w g (j*2) (.string (c[j]?.getD ⟨#[]⟩))/\xC w g (j*2+1) (xI (s[j]?.getD 0:Nat))) :
 SeqStopsK Fence.wide n prog 128 #[xP f] Q3 (Oz N f) (λE=>E=MS (NJ c s) c.length c.length) (λ_=>True) c.length w:=λl J y W o _ _ A z=>by
 exact Wr n D N l f g t c s r h J y A W (zd o C k) (λj x=>⟨zd o (u j x).1 (by omega),zd o (u j x).2 (by omega)⟩) z
end
end Go.Proofs.YtcnelakggnfnhaaGreatDoor
