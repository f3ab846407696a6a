/- Part 36 of the proof. -/
import Derived.Lib.AppendIntMem
import Derived.Lib.ItoaNum
import Derived.Lib.LaidTab
import Derived.Test.YtbicmofihhjgbaaGreatDoorShelf2
import Derived.Test.YtbicmofihhjgbaaGreatDoorK34
set_option maxRecDepth 100000
set_option maxHeartbeats 8000000
namespace Go.Proofs.YtbicmofihhjgbaaGreatDoor
open Go.Proofs.Tryz
section
open Go.RowKit
variable {b:Xl} {B lb:Nat} {a l:Xv} {w d:Xw}
theorem Tryz.AK:(prog.info? 9).map (λi=>(i.zero,i.size,i.bytes))=some (some (.string ⟨#[]⟩),1,16):=by kernel_rfl
theorem LS (lb B:Nat)(a:Xv)(n:Nat)(C:Xm)(g k c:Nat)(i:Xm)(w:Xw)(E:xH w lb #[a] 93)(f:w.ownsRow B 9 1 a n C)(I:lb<B)(x:B<=w.heap.size)(Q:i.length=k)(F:∀j u,i[j]?=some u->w.cell? (((xD g 0):Addr).add j)=some u)(D:∀u∈i,u.oneCell'=true)(P:n+k<=10000000000) :
 xK 89 #[xP lb,xS g k c] w (λe d=>e=.returned (.tuple #[])/\∃t,d.heap[lb]?=some (.cells #[t] 93 (0,0))/\d.ownsRow B 9 1 t (n+k) (C++i)/\Fr (λj=>j=lb∨a.ownBlock=some j) w d/\(∀j,t.ownBlock=some j->a.ownBlock=some j∨w.heap.size<=j)):=by
 obtain⟨N,O,J⟩:=zu E;obtain⟨K,H,y,z,A⟩:=info_parts Tryz.AK;have L:n+k<=maxLen:=by unfold maxLen;omega
 have v:(n+k)*16<=140737488355328:=by omega
 have o:=za f;clear f;go_enter func89,ntmps89;go_wp2_with (at_builtin;refine o4 _ rfl (.tmp 8) (.tmp 9) 91 rfl B 9 K _ 1 16 underlying91 H y z A rfl (by decide) a n C rfl o.o (xD g 0) k c i rfl (by omega) F D L v x ?_;intro t M f m p;obtain⟨U,G,rfl⟩:=kE f;have r:=Fr.gi m;have s:=(r.block lb J (λh=>by have:=(o.o.lt _ h).1;omega)).trans E;obtain⟨R,S,T⟩:=zu s;have q:=za f;clear f m);go_end0;refine⟨rfl,_,zh _ _ _ _ s,zi q.o (λj D _ _=>zr (by omega) rfl),?_,p⟩;exact ((r.mono (λ_ _ h=>ap h):Fr (λj=>j=lb∨a.ownBlock=some j) w M)).setCell (ao (ao rfl)) _
structure Ln (lb B:Nat) (w:Xw) (a:Xv) (b:Xl):Prop where
 aC:w.heap[lb]?=some (.cells #[a] 93 (0,0))
 own:w.ownsRow B 9 1 a b.length (b.map .string)
structure fi (lb:Nat) (w:Xw) (a:Xv) (d:Xw) (l:Xv):Prop where
 fr:Fr (λj=>j=lb∨a.ownBlock=some j) w d
 new:∀j,l.ownBlock=some j->a.ownBlock=some j∨w.heap.size<=j
theorem fi.refl (lb:Nat)(w:Xw)(a:Xv):fi lb w a w a:=⟨Fr.refl _ w,λ_ h=>ao h⟩
theorem fi.trans {f g:Xw}{c e:Xv}(h:fi lb w a f c)(k:fi lb f c g e):fi lb w a g e:=by
 have o:=h.fr.size;refine⟨h.fr.dr k.fr (λi n hs=>?_),λj m=>?_⟩
 . rcases hs with hs|hs
   . exact ao hs
   rcases h.new i hs with h'|h'
   . exact ap h'
   omega
 rcases k.new j m with h'|h'
 . exact h.new j h'
 right;omega
theorem fi.alloc (h:fi lb w a d l)(o:Obj):fi lb w a (d.alloc o) l:=⟨h.fr.alloc o,h.new⟩
theorem fi.cQ (h:fi lb w.drew a d l):fi lb w a d l:=⟨h.fr.cQ,h.new⟩
def y7 (lb B:Nat)(w:Xw)(a:Xv)(b:Xl)(e:Ending)(d:Xw):Prop :=
 e=.returned (.tuple #[])/\∃l,Ln lb B d l b/\fi lb w a d l
theorem Ln.alloc (h:Ln lb B w a b)(o:Obj):Ln lb B (w.alloc o) a b :=
 ⟨(Below.heap_alloc _ _ _ (ze h.aC)).trans h.aC,zD h.own o⟩
theorem Ln.drew (h:Ln lb B w a b):Ln lb B w.drew a b:=⟨h.aC,h.own⟩
theorem LW {e:Xl}:∀u∈e.map Value.string,u.oneCell'=true:=by intro u c;obtain⟨s,_,rfl⟩:=List.mem_map.1 c;rfl
theorem pP (lb B:Nat)(w:Xw)(a:Xv)(b i:Xl)(g k c:Nat)(f:Nat×Nat)(h:Ln lb B w a b)(m:lb<B)(j:B<=w.heap.size)(o:w.heap[g]?=some (.cells (i.map Value.string).toArray 9 f))(n:i.length=k)(u:b.length+i.length<=10000000000) :
 xK 89 #[xP lb,xS g k c] w (y7 lb B w a (b++i)):=by
 refine (LS lb B a b.length _ g k c (i.map .string) w h.aC h.own m j (by simpa using n) (zN o rfl) LW (by omega)).mono ?_;rintro e d ⟨rfl,t,p,q,r,s⟩;refine⟨rfl,t,⟨p,?_⟩,r,s⟩;rw[aP,List.map_append,n];exact q
end
section
open Go.RowKit
def sy (b:Bool):ByteArray:=if b then ⟨#[98,111,111,108]⟩ else ⟨#[105,110,116]⟩
theorem y5 (w:Xw)(b a:Obj):((w.alloc b).alloc a).drew.heap[w.heap.size+1]?=some a:=by have h:=zc (w.alloc b) a;rw[au] at h;exact h
theorem y8 {lb:Nat}{w e:Xw}{b a:Xv}{c d:Obj}(h:fi lb ((w.alloc c).alloc d).drew b e a):fi lb w b e a:=(((fi.refl lb w b).alloc c).alloc d).trans h.cQ
theorem yZ:zH 156:=λ_ _=>by kernel_rfl
theorem y6:zH 89:=λ_ _=>by kernel_rfl
theorem Lz (lb B:Nat)(w:Xw)(i:Xv)(g:Xl)(j ck:Xb)(a u t r:Nat)(q:Nat)(b:Bool)(k:q=if b then 1 else 0)(H:Ln lb B w i g)(h:lb<B)(s:B<=w.heap.size)(p:g.length+3<=10000000000) :
 xK 92 #[xP lb,.agg #[.string j,xI a,xI q,xI u,xI t,.string ck,xI r]] w (y7 lb B w i (g++[j,⟨#[58]⟩,sy b])):=by
 subst k;go_enter func92,ntmps92;have o:∀l m,aa (Ln lb B ((w.alloc l).alloc m).drew i g):=λl m=>((H.alloc l).alloc m).drew;cases b with
 | true =>
   go_upto_region 1 with fail;go_region_law (first|(refine kD rfl 156 (.tmp 9) 129 rfl yZ (xI 1) rfl (ph _) ?_;rintro e x ⟨rfl,rfl⟩;refine⟨_,rfl,?_⟩)|(refine rl rfl 89 (.tmp 4) (.tmp 11) 175 91 rfl y6 (xP lb) (xS (w.heap.size+1) 3 3) rfl rfl (pP lb B _ i g [j,⟨#[58]⟩,sy true] (w.heap.size+1) 3 3 (0,0) (o _ _).out h (by simp;omega) (y5 w _ _) rfl (by simpa using p)) ?_;rintro e v ⟨rfl,n,f,c⟩;refine⟨_,rfl,?_⟩;have d:=za (y8 c);clear c));all_goals go_wp2_with fail
   all_goals go_end0
   all_goals exact⟨rfl,_,f,d.o⟩
 | false =>
   go_upto_region 1 with fail;go_region_law (first|(refine kD rfl 156 (.tmp 9) 129 rfl yZ (xI 0) rfl (rU _) ?_;rintro e x ⟨rfl,rfl⟩;refine⟨_,rfl,?_⟩)|(refine rl rfl 89 (.tmp 4) (.tmp 11) 175 91 rfl y6 (xP lb) (xS (w.heap.size+1) 3 3) rfl rfl (pP lb B _ i g [j,⟨#[58]⟩,sy false] (w.heap.size+1) 3 3 (0,0) (o _ _).out h (by simp;omega) (y5 w _ _) rfl (by simpa using p)) ?_;rintro e v ⟨rfl,n,f,c⟩;refine⟨_,rfl,?_⟩;have d:=za (y8 c);clear c));all_goals go_wp2_with fail
   all_goals go_end0
   all_goals exact⟨rfl,_,f,d.o⟩
end
section
def jM:ByteArray:=⟨#[40]⟩
def kr:ByteArray:=⟨#[41]⟩
def p7:ByteArray:=⟨#[44]⟩
def eA:Bool->List (List ByteArray)->List ByteArray
 | _,[]=>[]
 | b,x::l=>(if b then [p7] else [])++(x++eA true l)
def gS (l:List (List ByteArray)):List ByteArray:=[jM]++(eA false l++[kr])
def jq (k:Nat)(l:Xl):List ByteArray:=if k=4 then [jM]++(l++[kr]) else l
def iy (k:Nat)(s:Xb)(a:Xn)(l:List (List ByteArray)):List ByteArray :=
 if k=5 then [⟨#[105,102]⟩]++(l.getD 0 []++([⟨#[116,104,101,110]⟩]++(l.getD 1 []++([⟨#[101,108,115,101]⟩]++l.getD 2 []))))
 else if k=6 then [⟨#[109,101,114,103,101]⟩,s]++(jq (a.getD 0 0) (l.getD 0 [])++jq (a.getD 1 0) (l.getD 1 []))
 else if k=7∨k=8 then l.getD 0 []++[wd k,s]
 else if k=10∨k=11 then [wd k]++l.getD 0 []
 else l.getD 0 []++([wd k]++l.getD 1 [])
def pQ (n:Nat):ByteArray:=⟨(Lib.itoa (n:Int)).toArray⟩
def lM (k:Nat)(s:Xb)(n:Nat)(a:Xn)(l:List (List ByteArray)):List ByteArray :=
 if k=0 then [pQ n]
 else if k=1∨k=2 then [wd k]
 else if k=3 then [s]
 else if k=4 then [s]++gS l
 else [jM]++(iy k s a l++[kr])
mutual
def eO:Tm->List ByteArray
 | .mk k _ s _ n a=>lM k s n (a.map Tm.k) (hH a)
def hH:List Tm->List (List ByteArray)
 | []=>[]
 | t::l=>eO t::hH l
end
theorem LO {l:List (List ByteArray)}{k:Nat}{x:Xl}(h:l[k]?=some x)(b:Bool):eA b (l.take (k+1))=eA b (l.take k)++((if b=true∨0<k then [p7] else [])++x):=by
 induction l generalizing k b with
 | nil=>simp at h
 | cons y l a =>
   cases k with
   | zero=>simp at h;subst h;simp[eA]
   | succ k => simp at h;rw[cI,cI,eA,eA,a h true];simp
def eB (v:Vr):List ByteArray:=[v.nm,⟨#[58]⟩,if v.bl then ⟨#[98,111,111,108]⟩ else ⟨#[105,110,116]⟩]
def tj (v:Vr):List ByteArray:=if ba v=1 then [⟨#[111,110]⟩,v.ck] else if ba v=2 then [⟨#[111,110]⟩,⟨#[110,111,116]⟩,v.ck] else []
def fZ (v:Vr):List ByteArray:=eB v++(tj v++[⟨#[59]⟩])
def gT (q:Qn):List ByteArray:=(if q.ns.length=1 then q.ns else gS (q.ns.map (λs=>[s])))++([⟨#[61]⟩]++(eO q.r++[⟨#[59]⟩]))
def ez (n:ay):List ByteArray :=
 [⟨#[110,111,100,101]⟩,n.nm]++(gS ((n.ak.take n.ah).map eB)++([⟨#[45,62]⟩]++(gS (((n.ak.drop n.ah).take n.aG).map eB)++((if 0<(n.ak.drop (n.ah+n.aG)).length then [⟨#[118,97,114]⟩] else [])++((n.ak.drop (n.ah+n.aG)).flatMap fZ++([⟨#[123]⟩]++(n.eqs.flatMap gT++[⟨#[125]⟩])))))))
def jp (n:ay):List UInt8:=([32]:Xu).intercalate ((ez n).map (·.data.toList))++[10]
def dU (a:List ay):List UInt8:=a.flatMap jp
end
section
open Go.RowKit
variable {a:Xl} {B lb:Nat} {tv0:Xv} {W w0:Xw}
structure aQ (lb B:Nat) (w0:Xw) (tv0:Xv) (W:Xw) (a:Xl):Prop where
 lt:lb<B
 le:B<=w0.heap.size
 lo:∀j,tv0.ownBlock=some j->B<=j/\j<w0.heap.size
 ln:∃tv,Ln lb B W tv a/\fi lb w0 tv0 W tv
theorem aQ.start {b:Xv}(h:Ln lb B W b a)(c:lb<B)(d:B<=W.heap.size):aQ lb B W b W a :=
 ⟨c,d,λj e=>h.own.lt j e,b,h,fi.refl _ _ _⟩
theorem aQ.size (h:aQ lb B w0 tv0 W a):w0.heap.size<=W.heap.size:=by obtain⟨c,_,b⟩:=h.ln;exact b.fr.size
theorem aQ.alloc (h:aQ lb B w0 tv0 W a)(o:Obj):aQ lb B w0 tv0 (W.alloc o) a:=by obtain⟨d,b,c⟩:=h.ln;exact⟨h.lt,h.le,h.lo,d,b.alloc o,c.alloc o⟩
theorem aQ.drew (h:aQ lb B w0 tv0 W a):aQ lb B w0 tv0 W.drew a:=by obtain⟨d,c,b⟩:=h.ln;exact⟨h.lt,h.le,h.lo,d,c.drew,⟨b.fr.os,b.fr.tape,b.fr.output,b.fr.size,b.fr.block⟩,b.new⟩
theorem aQ.am (h:aQ lb B w0 tv0 W a){N:Nat}(c:N<=lb):bV N w0 W:=by
 obtain⟨d,_,b⟩:=h.ln;have:=h.lt;have:=h.le;refine b.fr.am (by omega) ?_;rintro k (rfl|hk)
 . exact c
 have:=(h.lo k hk).1;omega
theorem aQ.kept (h:aQ lb B w0 tv0 W a){b:Nat}{o:Obj}(d:w0.heap[b]?=some o)(c:¬b=lb)(f:¬tv0.ownBlock=some b):W.heap[b]?=some o:=by obtain⟨g,_,e⟩:=h.ln;exact (e.fr.block b (by have:=Array.getElem?_eq_some_iff.1 d;exact this.1) (λhs=>by rcases hs with hs|hs;exact c hs;exact f hs)).trans d
def ey (lb B:Nat)(w0:Xw)(tv0:Xv)(a:Xl)(e:Ending)(b:Xw):Prop:=e=.returned (.tuple #[])/\aQ lb B w0 tv0 b a
theorem fY (h:aQ lb B w0 tv0 W a)(b:Xl)(k:Nat)(g:b.length=k)(i:(a++b).length<=10000000000)(o:Obj)(j:o=.cells (b.map Value.string).toArray 9 (0,0)) :
 xK 89 #[xP lb,xS W.heap.size k k] (W.alloc o) (ey lb B w0 tv0 (a++b)):=by
 obtain⟨n,f,d⟩:=h.ln;have:=h.lt;have:=h.le;have p:=d.fr.size;subst j;refine (pP lb B _ n a b W.heap.size k k (0,0) (f.alloc _) h.lt (by rw[au];omega) (zc W _) g (by simpa using i)).mono ?_;rintro e q ⟨rfl,c,l,m⟩;exact⟨rfl,h.lt,h.le,h.lo,c,l,(d.alloc _).trans m⟩
theorem pO (h:aQ lb B w0 tv0 W a)(b:Xl)(k:Nat)(g:b.length=k)(i:(a++b).length<=10000000000)(o:Obj)(j:o=.cells (b.map Value.string).toArray 9 (0,0)) :
 xK 89 #[xP lb,xS W.heap.size k k] (W.alloc o).drew (ey lb B w0 tv0 (a++b)):=by
 obtain⟨n,f,d⟩:=h.ln;have:=h.lt;have:=h.le;have p:=d.fr.size;subst j;refine (pP lb B _ n a b W.heap.size k k (0,0) (f.alloc _).drew h.lt (by show B<=(W.alloc _).heap.size;rw[au];omega) (zc W _) g (by simpa using i)).mono ?_;rintro e q ⟨rfl,c,l,m⟩;exact⟨rfl,h.lt,h.le,h.lo,c,l,(d.alloc _).trans m.cQ⟩
theorem y2 (F:FuncId)(g:Xa)(hF:zH F)(c:List (List ByteArray))
 (J:∀(i:Nat) (u:Xl),c[i]?=some u->∀(W:Xw) (a:Xl),aQ lb B w0 tv0 W a->(a++u).length<=10000000000->xK F (#[xI i]++g) W (ey lb B w0 tv0 (a++u)))
 (W:Xw) (a:Xl) (h:aQ lb B w0 tv0 W a) (z:(a++gS c).length<=10000000000) (V:c.length<=10000000000) :
 xK 90 #[xP lb,xI c.length,.func (.func F) #[] g] W (ey lb B w0 tv0 (a++gS c)):=by
 have Q:∀(f:Xa) (w:Xw),(callFunc F f).run prog w=.ok (.enter F f) w:=hF;have H:=za h;have O:=za J;have n:∀k,(eA false (c.take k)).length<=(eA false c).length:=by
  intro k;have e:∀(l:List (List ByteArray)) (b:Bool) (k:Nat),(eA b (l.take k)).length<=(eA b l).length:=by
   intro l;induction l with
   | nil=>intro b k;simp
   | cons x l T =>
     intro b k;cases k with
     | zero=>simp[eA]
     | succ k=>rw[cI,eA,eA];simp only[aP];have:=T true k;omega
  exact e c false k
 have S:a.length+(eA false c).length+2<=10000000000:=by unfold gS at z;simp only[aP,bJ,cw] at z;omega
 clear h J z;have d:=za n;clear n;go_enter func90,ntmps90;go_wp2_with (go_at_call 89;refine (fY H.o [jM] 1 rfl (by simp only[aP,bJ,cw];omega) _ rfl).mono ?_;rintro e X ⟨rfl,G⟩;have M:=za G;clear G);go_loopg [11] (c.length+1) (λj i wr=>∃k:Nat,k+j=c.length+1/\k<=c.length/\i=xI k/\aa (aQ lb B w0 tv0 wr (a++[jM]++eA false (c.take k))));case atStart=>exact⟨0,by omega,aE _,rfl,za (by simpa [eA] using M.o)⟩
 case round =>
  obtain⟨k,R,U,rfl,s⟩:=hrel;have q:=d.o k;by_cases y:k<c.length
  . obtain⟨u,A⟩:∃u,c[k]?=some u:=⟨_,av y⟩;have v:=za (LO A false);have r:=d.o (k+1);have D:=za (O.o k u A);have t:(eA false (c.take (k+1))).length=(eA false (c.take k)).length+((if 0<k then 1 else 0)+u.length):=by rw[v.o];simp only[aP];split <;> split <;> simp_all
    clear A;by_cases E:k=0
    . have C:a.length+1+(eA false (c.take k)).length+u.length<=10000000000:=(by rw[ae (by omega)] at t;omega);have o:¬((0:Int)<(k:Int)):=(by omega);have L:=za E;clear t r q E;go_wp2_with fail;with_reducible refine (D.o _ _ s.o (by simp only[aP,bJ,cw];omega)).mono ?_
      rintro e K ⟨rfl,m⟩;have p:=za m;clear m;go_wp2_with fail;go_roundg (gk-1);case measure=>omega
      refine⟨k+1,by omega,by omega,by go_num,za ?_⟩;have:=p.o;rw[v.o];simpa [bw,eA,L.o] using this
    have o:0<k:=(by omega);have C:a.length+1+(eA false (c.take k)).length+1+u.length<=10000000000:=(by simp[o] at t;omega);clear t r q;go_wp2_with (go_at_call 89;refine (fY s.o [p7] 1 rfl (by simp only[aP,bJ,cw];omega) _ rfl).mono ?_;rintro e K ⟨rfl,m⟩;have p:=za m;clear m);with_reducible refine (D.o _ _ p.o (by simp only[aP,bJ,cw];omega)).mono ?_
    rintro e Y ⟨rfl,I⟩;have N:=za I;clear I;go_wp2_with fail;go_roundg (gk-1);case measure=>omega
    refine⟨k+1,by omega,by omega,by go_num,za ?_⟩;have:=N.o;rw[v.o];simpa [bw,o] using this
  have P:k=c.length:=by omega
  subst P;rw[List.take_length] at s;go_wp2_with (go_at_call 89;refine (fY s.o [kr] 1 rfl (by simp only[aP,bJ,cw];omega) _ rfl).mono ?_;rintro e K ⟨rfl,m⟩;have p:=za m;clear m);first|go_end0|refine bodyPost_ret (results_none rfl _ _ _) rfl ?_
  exact⟨rfl,by simpa [gS,bw] using p.o⟩
end
section
open Go.RowKit
variable {a:Xl} {B lb:Nat} {c:Xv} {W b:Xw}
theorem aQ.box (h:aQ lb B b c W a)(o:Obj):∃f,aQ lb B (W.alloc o) f (W.alloc o) a/\(∀j,f.ownBlock=some j->j<W.heap.size)/\lb<W.heap.size/\∀(i:Xw) (d:Xl),aQ lb B (W.alloc o) f i d->aQ lb B b c i d:=by obtain⟨f,l,m⟩:=h.ln;have q:=m.fr.size;have:=h.le;have:=h.lt;refine⟨f,aQ.start (l.alloc o) h.lt (by rw[au];omega),λj e=>(l.own.lt j e).2,by omega,λi d k=>?_⟩;obtain⟨g,n,p⟩:=k.ln;exact⟨h.lt,h.le,h.lo,g,n,(m.alloc o).trans p⟩
theorem aQ.Ah (h:aQ lb B b c W a)(o f:Obj):∃g,aQ lb B ((W.alloc o).alloc f) g ((W.alloc o).alloc f) a/\(∀j,g.ownBlock=some j->j<W.heap.size)/\lb<W.heap.size/\∀(l:Xw) (d:Xl),aQ lb B ((W.alloc o).alloc f) g l d->aQ lb B b c l d:=by obtain⟨g,m,n⟩:=h.ln;have r:=n.fr.size;have:=h.le;have:=h.lt;refine⟨g,aQ.start ((m.alloc o).alloc f) h.lt (by simp only[au];omega),λj e=>(m.own.lt j e).2,by omega,λl d k=>?_⟩;obtain⟨i,p,q⟩:=k.ln;exact⟨h.lt,h.le,h.lo,i,p,((n.alloc o).alloc f).trans q⟩
def lS (v:Vr):Value:=.agg #[.string v.nm,xI v.a,xI (dv v:Nat),xI (ba v:Nat),xI v.on,.string v.ck,xI v.ca]
theorem sx (h:aQ lb B b c W a)(v:Vr)(i:(a++eB v).length<=10000000000) :
 xK 92 #[xP lb,lS v] W (ey lb B b c (a++eB v)):=by
 obtain⟨l,g,f⟩:=h.ln;have:=h.le;have m:=f.fr.size;refine (Lz lb B W l a v.nm v.ck v.a (ba v) v.on v.ca (dv v) v.bl rfl g h.lt (by omega) (by simpa [eB] using i)).mono ?_;rintro e n ⟨rfl,d,j,k⟩;exact⟨rfl,h.lt,h.le,h.lo,d,j,f.trans k⟩
def oe (v:Vr):Prop:=∀(lb B:Nat) (b W:Xw) (c:Xv) (a:Xl),aQ lb B b c W a->(a++fZ v).length<=10000000000->xK 94 #[xP lb,lS v] W (ey lb B b c (a++fZ v))
theorem EY (v:Vr)(d:ba v=0):oe v:=by
 intro lb B b W c a h l;have x:=za d;clear d;obtain⟨C,q,s,A,u⟩:=h.box (.cells #[.string v.nm,xI v.a,xI (dv v:Nat),xI (ba v:Nat),xI v.on,.string v.ck,xI v.ca] 134);have i:(a++eB v).length<=10000000000:=by simp only[fZ,aP] at l ⊢;omega
 have k:=sx q v i;have w:∀(m:Xw) (j:Xl),aQ lb B _ C m j->xH m W.heap.size #[.string v.nm,xI v.a,xI (dv v:Nat),xI (ba v:Nat),xI v.on,.string v.ck,xI v.ca] 134:=λm j z=>z.kept (zc W _) (by omega) (λe=>by have:=s _ e;omega);have o:=l;clear h q l i s;unfold lS at k ⊢;go_enter func94,ntmps94;go_wp2_with (go_at_call 92;refine k.mono ?_);rintro e K ⟨rfl,n⟩;have g:=w _ _ n;obtain⟨D,E,F,y,G,H,I,J,cz⟩:=eK g;clear g;have d:=x.o;rw[d] at y;have f:fZ v=eB v++[⟨#[59]⟩]:=by simp[fZ,tj,d]
 rw[f] at o;clear d k;go_wp2_with (go_at_call 89;refine (fY n [⟨#[59]⟩] 1 rfl (by simpa using o) _ rfl).mono ?_;rintro e L ⟨rfl,p⟩;have t:=p;clear p);first|go_end0|refine bodyPost_ret (results_none rfl _ _ _) rfl ?_
 exact⟨rfl,u _ _ (by rw[f];have r:=t;rw[bw] at r;exact r)⟩
theorem LL:zH 91:=λ_ _=>by kernel_rfl
theorem LA:zH 93:=λ_ _=>by kernel_rfl
theorem LM {N:Nat}(h:aQ lb B b c W a)(C:N<=lb)(n:ay)(o:Nat)(Q E:Xv)(R:Xm)(s:NT b N n o Q E R)(j k:Nat)
 (l:xH b j #[xP lb] 175) (m:xH b k #[xP o] 90) (p:¬j=lb) (A:¬k=lb) (t1:¬c.ownBlock=some j) (t2:¬c.ownBlock=some k)
 (i:Nat) (v:Vr) (t:n.ak[i]?=some v) (H:(a++eB v).length<=10000000000) :
 xK 91 (#[xI i]++#[xP j,xP k]) W (ey lb B b c (a++eB v)):=by
 obtain⟨p0,ab,ar⟩:=zu (h.kept l p t1);obtain⟨q0,qf,aA⟩:=zu (h.kept m A t2);have f:=s.am (h.am C);obtain⟨T,U,V,X,Y,Z,nf,nz⟩:=zt f.aC;obtain⟨x,z,rfl⟩:=zB f.bZ;obtain⟨g,rfl,v0,v1,v2,v3,v4,v5,v6⟩:=hj f.bZ t;have F:=s.bO;have G:=(aB.1 t).1;have u:(∀(d:Xw) (r:Xl),aQ lb B b c d r->d.cell? (xD j 0)=some (xP lb)/\d.cell? (xD k 0)=some (xP o)/\d.cell? (xD o 2)=some (xS g n.ak.length z)/\d.cell? (xD g (i*7))=some (.string v.nm)/\d.cell? (xD g (i*7+1))=some (xI v.a)/\d.cell? (xD g (i*7+2))=some (xI (dv v:Nat))/\d.cell? (xD g (i*7+3))=some (xI (ba v:Nat))/\d.cell? (xD g (i*7+4))=some (xI v.on)/\d.cell? (xD g (i*7+5))=some (.string v.ck)/\d.cell? (xD g (i*7+6))=some (xI v.ca)):=by intro d r w;have q:=s.am (w.am C);obtain⟨S,D,I,J,K,L,M,O,P⟩:=hj q.bZ t;cases D;exact⟨(zu (w.kept l p t1)).1,(zu (w.kept m A t2)).1,(zt q.aC).2.2.1,I,J,K,L,M,O,P⟩
 have y:=sx h.drew v H;clear h f l m s t;unfold lS at y
 show Calls prog _ #[xI i,xP j,xP k] W _;go_enter func91,ntmps91;go_region_held3 (λd=>d.cell? (xD j 0)=some (xP lb)/\d.cell? (xD k 0)=some (xP o)/\d.cell? (xD o 2)=some (xS g n.ak.length z)/\d.cell? (xD g (i*7))=some (.string v.nm)/\d.cell? (xD g (i*7+1))=some (xI v.a)/\d.cell? (xD g (i*7+2))=some (xI (dv v:Nat))/\d.cell? (xD g (i*7+3))=some (xI (ba v:Nat))/\d.cell? (xD g (i*7+4))=some (xI v.on)/\d.cell? (xD g (i*7+5))=some (.string v.ck)/\d.cell? (xD g (i*7+6))=some (xI v.ca)) (first|go_keep|exact u _ _ p) (first|(go_at_call 92;refine y.mono ?_;rintro e w1 ⟨rfl,p⟩));all_goals first|go_end0|refine bodyPost_ret (results_none rfl _ _ _) rfl ?_
 all_goals exact⟨rfl,p⟩
end
section
open Go.RowKit
variable {f:Xl} {B N b i lb:Nat} {S:Xs} {t u0:Tm} {c:Xv} {W w a:Xw}
theorem iP {d:Xw}(h:bV N w d)(e:b<N):d.cell? (xD b i)=w.cell? ⟨b,i,none⟩:=by have:=h b e;simp only[World.cell?,this]
theorem y1 {k:Nat}(h:k<24):gJ[k]?=some (wd k):=by have:gJ.length=24:=rfl;unfold wd;rw[av (by omega)];rfl
theorem TT.look {u:Tm}(h:TT w N t (xP b))(v:t.ts[i]?=some u):∃g n m,xC w b 5 (xS g t.ts.length n)/\xC w g i (xP m)/\TT w N u (xP m)/\g<N:=by obtain⟨y,p,I,e,F,k,j,d,l,o⟩:=h.ptr;cases e;obtain⟨z,A,C,D,E,q,G,H⟩:=zt k;obtain⟨x,n,rfl⟩:=zB j;obtain⟨g,m,rfl,s,r,_⟩:=TT.arg j d l v;exact⟨g,n,m,d▸q,s,r,o g rfl⟩
theorem TT.mW (h:TT w N t (xP b)):xC w b 0 (xI t.k)/\xC w b 2 (.string t.s)/\xC w b 4 (xI t.n)/\b<w.heap.size/\b<N:=by obtain⟨s,g,z,e,p,d,k,j,l,q⟩:=h.ptr;cases e;obtain⟨m,u,n,v,o,x,y,r⟩:=zt d;exact⟨m,n,o,r,p⟩
structure Kn (S:Xs) (w:Xw):Prop where
 gl:Gl S w
 oy:Lib.TabIs prog w "internal/strconv.uint64pow10" .u64 Lib.pow10Tab
theorem Tryz.Qz:prog.globalNamed "internal/strconv.uint64pow10"=some 18:=by kernel_rfl
theorem Kn.ln (h:Kn S a)(g:aQ lb B a c W f)(d:21<=lb):Kn S W:=by
 obtain⟨l,_,j⟩:=g.ln;have:=g.lt;refine⟨h.gl.of j.fr (λk hk=>?_),?_⟩
 . rcases hk with rfl|hk
   . exact d
   have:=(g.lo k hk).1;omega
 have e:=h.oy;unfold Lib.TabIs World.var? at e ⊢;rw[Tryz.Qz] at e ⊢;simp only[Option.bind_some] at e ⊢;rw[g.am (N:=21) d _ (by decide)];exact e
def ke (S:Xs)(t:Tm):Prop:=∀(lb B N:Nat) (a:Xw) (c:Xv) (W:Xw) (f:Xl) (v:Xv),N<=lb->21<=N->TT a N t v->Kn S a->aQ lb B a c W f->(f++eO t).length<=10000000000->xK 158 #[xP lb,v] W (ey lb B a c (f++eO t))
theorem YI (p:ke S t)(lb B N:Nat)(a:Xw)(c:Xv)(W:Xw)(f:Xl)(v:Xv)(n:N<=lb)(h:21<=N)(j:TT a N t v)(q:Kn S a)(k:aQ lb B a c W f)(y:(f++jq t.k (eO t)).length<=10000000000) :
 xK 211 #[xP lb,v] W (ey lb B a c (f++jq t.k (eO t))):=by
 obtain⟨b,_,_,rfl,_⟩:=j.ptr;obtain⟨u,A,C,cz,_⟩:=(j.am (k.am n)).mW;have g:=za y;by_cases o:t.k=4
 . have m:jq t.k (eO t)=[jM]++(eO t++[kr]):=by unfold jq;rw[ag o]
   rw[m] at g ⊢;rw[o] at u;go_enter func211,ntmps211;have d:=trivial;go_wp2_with (clear d;go_at_call 89;refine (fY k [jM] 1 rfl (by have:=g.o;simp only[aP,bJ,cw] at this ⊢;omega) _ rfl).mono ?_;rintro e D ⟨rfl,r⟩);have d:=trivial;go_wp2_with (clear d;go_at_call 158;refine (p lb B N a c _ _ _ n h j q r (by have:=g.o;simp only[aP,bJ,cw] at this ⊢;omega)).mono ?_;rintro e z ⟨rfl,l⟩);have d:=trivial;go_wp2_with (clear d;go_at_call 89;refine (fY l [kr] 1 rfl (by have:=g.o;simp only[aP,bJ,cw] at this ⊢;omega) _ rfl).mono ?_;rintro e E ⟨rfl,s⟩);first|go_end0|refine bodyPost_ret (results_none rfl _ _ _) rfl ?_
   exact⟨rfl,by simpa [bw] using s⟩
 have m:jq t.k (eO t)=eO t:=by unfold jq;rw[ae o]
 rw[m] at g ⊢;have x:¬((t.k:Int)=4):=by omega
 go_enter func211,ntmps211;have d:=trivial;go_wp2_with (clear d;go_at_call 158;refine (p lb B N a c _ _ _ n h j q k g.o).mono ?_;rintro e z ⟨rfl,l⟩);first|go_end0|refine bodyPost_ret (results_none rfl _ _ _) rfl ?_
 exact⟨rfl,l⟩
theorem LP (O:∀u∈t.ts,ke S u)(v:N<=lb)(s:21<=N)(y:TT a N t (xP b))(p:Kn S a)(h:aQ lb B a c W f)(r:List Tm)(D:t.ts=r)(M:0<r.length)(L:Xl)(K:iy t.k t.s (r.map Tm.k) (hH r)=L)(G:(f++iy t.k t.s (t.ts.map Tm.k) (hH t.ts)).length<=10000000000)
 (k:∀(g A:Nat) (o:Nat->Nat),aa (∀(l:Xw) (j:Xl),aQ lb B a c l j->xC l b 0 (xI t.k)/\xC l b 2 (.string t.s)/\xC l b 5 (xS g r.length A))->aa (∀i u,r[i]?=some u->(∀(l:Xw) (j:Xl),aQ lb B a c l j->xC l g i (xP (o i)))/\(∀(l:Xw) (j:Xl),aQ lb B a c l j->(j++eO u).length<=10000000000->xK 158 #[xP lb,xP (o i)] l (ey lb B a c (j++eO u)))/\∀(l:Xw) (j:Xl),aQ lb B a c l j->(j++jq u.k (eO u)).length<=10000000000->xK 211 #[xP lb,xP (o i)] l (ey lb B a c (j++jq u.k (eO u))))->aa (aQ lb B a c W f)->aa (∀(l:Xw) (j:Xl),aQ lb B a c l j->Gl S l)->aa ((f++L).length<=10000000000)->xK 194 #[xP lb,xP b] W (ey lb B a c (f++L))) :
 xK 194 #[xP lb,xP b] W (ey lb B a c (f++iy t.k t.s (t.ts.map Tm.k) (hH t.ts))):=by
 subst D;rw[K] at G ⊢;obtain⟨u0,F⟩:∃u,t.ts[0]?=some u:=⟨_,av M⟩;obtain⟨g,A,_,d,_,_,Q⟩:=y.look F;have C:=y.mW.2.2.2.2;have x:∀i,∃o,∀u,t.ts[i]?=some u->a.cell? (xD g i)=some (xP o)/\TT a N u (xP o):=by
  intro i;cases P:t.ts[i]? with
  | none=>exact⟨0,λu z=>by cases z⟩
  | some u => obtain⟨U,I,o,J,e,n,_⟩:=y.look P;cases d.symm.trans J;exact⟨o,λV E=>by cases E;exact⟨e,n⟩⟩
 refine k g A (λi=>(x i).choose) (λl j m=>?_) (λi u z=>?_) h (λl j m=>(p.ln m (by omega)).gl) G
 . obtain⟨R,T,_,_,_⟩:=(y.am (m.am v)).mW;exact⟨R,T,(iP (m.am v) C).trans d⟩
 obtain⟨e,n⟩:=(x i).choose_spec u z;have H:=O u (aM z);exact⟨λl j m=>(iP (m.am v) Q).trans e,λl j m q=>H lb B N a c l j _ v s n p m q,λl j m q=>YI H lb B N a c l j _ v s n p m q⟩
def y9 (S:Xs)(t:Tm):Prop:=∀(lb B N:Nat) (a:Xw) (c:Xv) (W:Xw) (f:Xl) (v:Xv),N<=lb->21<=N->TT a N t v->Kn S a->aQ lb B a c W f->(f++iy t.k t.s (t.ts.map Tm.k) (hH t.ts)).length<=10000000000->xK 194 #[xP lb,v] W (ey lb B a c (f++iy t.k t.s (t.ts.map Tm.k) (hH t.ts)))
theorem YT (D:∀u∈t.ts,ke S u)(G:t.ts=[u0])(p:t.k=10):y9 S t:=by
 intro lb B N a c W f v F n x o h H;obtain⟨b,_,_,rfl,_⟩:=x.ptr;refine LP D F n x o h [u0] G (by simp) ([wd 10]++eO u0) (by unfold iy;rw[ae (by omega),ae (by omega),ae (by omega),ag (by omega),p];rfl) H ?_;intro g I J d r k z s;have q:gJ[10]?=some (wd 10):=y1 (by omega);go_enter func194,ntmps194;obtain⟨m,A,C⟩:=d.o _ _ k.o;rw[p] at m;have j:=trivial;go_wp2_with (clear j;go_at_call 192;refine (sj S 10 (wd 10) q _ (z.o _ _ k.o)).mono ?_);rintro e M ⟨rfl,rfl⟩;have j:=trivial;go_wp2_with (clear j;go_at_call 89;refine (fY k.o [wd 10] 1 rfl (by have:=s.o;simp only[aP,bJ,cw] at this ⊢;omega) _ rfl).mono ?_);rintro e K ⟨rfl,l⟩;obtain⟨m,A,C⟩:=d.o _ _ l;have E:=(r.o 0 u0 rfl).1 _ _ l;rw[p] at m;have j:=trivial;go_wp2_with (clear j;go_at_call 158;refine ((r.o 0 u0 rfl).2.1 _ _ l (by have:=s.o;simp only[aP,bJ,cw] at this ⊢;omega)).mono ?_);rintro e L ⟨rfl,y⟩;go_wp2_with fail;first|go_end0|refine bodyPost_ret (results_none rfl _ _ _) rfl ?_
 exact⟨rfl,by simpa [bw] using y⟩
theorem LH {u1:Tm}(D:∀u∈t.ts,ke S u)(H:t.ts=[u0,u1])(G:t.k<24)(O:¬t.k=5)(P:¬t.k=6)(X:¬t.k=7)(Y:¬t.k=8)(L:¬t.k=10)(M:¬t.k=11):y9 S t:=by
 intro lb B N a c W f v F p z q h I;obtain⟨b,_,_,rfl,_⟩:=z.ptr;refine LP D F p z q h [u0,u1] H (by simp) (eO u0++([wd t.k]++eO u1)) (by unfold iy;rw[ae O,ae P,ae (by omega),ae (by omega)];rfl) I ?_;intro g Q Z d k l C o;have r:gJ[t.k]?=some (wd t.k):=y1 G;have R:¬((t.k:Int)=5):=by omega
 have T:¬((t.k:Int)=6):=by omega
 have U:¬((t.k:Int)=7):=by omega
 have V:¬((t.k:Int)=8):=by omega
 have J:¬((t.k:Int)=10):=by omega
 have K:¬((t.k:Int)=11):=by omega
 go_enter func194,ntmps194;obtain⟨s,x,y⟩:=d.o _ _ l.o;have E:=(k.o 0 u0 rfl).1 _ _ l.o;have j:=trivial;go_wp2_with (clear j;go_at_call 158;refine ((k.o 0 u0 rfl).2.1 _ _ l.o (by have:=o.o;simp only[aP,bJ,cw] at this ⊢;omega)).mono ?_);rintro e w1 ⟨rfl,m⟩;obtain⟨s,x,y⟩:=d.o _ _ m;have j:=trivial;go_wp2_with (clear j;go_at_call 192;refine (sj S t.k (wd t.k) r _ (C.o _ _ m)).mono ?_);rintro e wx ⟨rfl,rfl⟩;have j:=trivial;go_wp2_with (clear j;go_at_call 89;refine (fY m [wd t.k] 1 rfl (by have:=o.o;simp only[aP,bJ,cw] at this ⊢;omega) _ rfl).mono ?_);rintro e w2 ⟨rfl,n⟩;obtain⟨s,x,y⟩:=d.o _ _ n;have E:=(k.o 1 u1 rfl).1 _ _ n;have j:=trivial;go_wp2_with (clear j;go_at_call 158;refine ((k.o 1 u1 rfl).2.1 _ _ n (by have:=o.o;simp only[aP,bJ,cw] at this ⊢;omega)).mono ?_);rintro e w3 ⟨rfl,A⟩;go_wp2_with fail;first|go_end0|refine bodyPost_ret (results_none rfl _ _ _) rfl ?_
 exact⟨rfl,by simpa [bw] using A⟩
end
section
open Go.RowKit
variable {a:Xl} {B lb:Nat} {S:Xs} {t:Tm} {d:Xv} {W c:Xw}
mutual
def Bk:Tm->Bool
 | .mk _ _ _ _ n a=>decide (n<=9223372036854775807)&&ti a
def ti:List Tm->Bool
 | []=>true
 | t::l=>Bk t&&ti l
end
theorem TU {a:List Tm}(h:ti a=true)(ht:t∈a):Bk t=true:=by
 induction a with
 | nil=>cases ht
 | cons x l b =>
   unfold ti at h;rw[Bool.and_eq_true] at h;rcases cC.1 ht with rfl|ht
   . exact h.1
   exact b h.2 ht
theorem aQ.aH {i:Xw}(h:aQ lb B c d W a)(f:xB W i):aQ lb B c d i a:=by obtain⟨l,b,k⟩:=h.ln;refine⟨h.lt,h.le,h.lo,l,⟨(f.block _ (ze b.aC)).trans b.aC,zi b.own (λg _ _ e=>f.block g (b.own.lt g e).2)⟩,k.trans ⟨Fr.Mo f,λj e=>ao e⟩⟩
structure Bx (lb B:Nat) (o:Obj) (b1 b2:Nat) (c:Xw) (d:Xv):Prop where
 h1:c.heap[b1]?=some (.cells #[xP lb] 175 (0,0))
 h2:c.heap[b2]?=some o
 n1:¬b1=lb
 n2:¬b2=lb
 t1:¬d.ownBlock=some b1
 t2:¬d.ownBlock=some b2
theorem Bx.at {b e:Nat}{o:Obj}(h:Bx lb B o b e c d)(f:aQ lb B c d W a):xH W b #[xP lb] 175/\W.heap[e]?=some o :=
 ⟨f.kept h.h1 h.n1 h.t1,f.kept h.h2 h.n2 h.t2⟩
theorem aQ.boxes (h:aQ lb B c d W a)(b:Obj):∃g,aQ lb B ((W.alloc (.cells #[xP lb] 175)).alloc b) g ((W.alloc (.cells #[xP lb] 175)).alloc b) a/\Bx lb B b W.heap.size (W.heap.size+1) ((W.alloc (.cells #[xP lb] 175)).alloc b) g/\∀(j:Xw) (f:Xl),aQ lb B ((W.alloc (.cells #[xP lb] 175)).alloc b) g j f->aQ lb B c d j f:=by
 obtain⟨g,k,i,m,l⟩:=h.Ah (.cells #[xP lb] 175) b;refine⟨g,k,⟨?_,?_,by omega,by omega,λe=>by have:=i _ e;omega,λe=>by have:=i _ e;omega⟩,l⟩
 . exact (Below.heap_alloc _ _ _ (by rw[au];omega)).trans (zc W _)
 have:=zc (W.alloc (.cells #[xP lb] 175)) b;rwa [au] at this
theorem pR {N b:Nat}(s:N<=lb)(y:TT c N t (xP b))(r:Kn S c)(x:21<=N)(h:aQ lb B c d W a)(L:Xl)(w:lM t.k t.s t.n (t.ts.map Tm.k) (hH t.ts)=L)(v:(a++eO t).length<=10000000000)
 (k:∀(f:Xw) (n:Xv),W.heap.size+1<f.heap.size->b<f.heap.size->(W.alloc (.cells #[xP lb] 175)).alloc (.cells #[xP b] 182)=f->aa (aQ lb B f n f a)->aa (TT f N t (xP b))->aa (Kn S f)->aa (Bx lb B (.cells #[xP b] 182 (0,0)) W.heap.size (W.heap.size+1) f n)->aa (∀(j:Xw) (o:Xl),aQ lb B f n j o->xC j W.heap.size 0 (xP lb)/\xC j (W.heap.size+1) 0 (xP b)/\xC j b 0 (xI t.k)/\xC j b 2 (.string t.s)/\xC j b 4 (xI t.n))->aa ((a++L).length<=10000000000)->xK 158 #[xP lb,xP b] W (ey lb B f n (a++L))) :
 xK 158 #[xP lb,xP b] W (ey lb B c d (a++eO t)):=by
 obtain⟨n,u,p,i⟩:=h.boxes (.cells #[xP b] 182);obtain⟨f,g⟩:∃f,f=(W.alloc (.cells #[xP lb] 175)).alloc (.cells #[xP b] 182):=⟨_,rfl⟩;have q:Kn S f:=g▸r.ln ((h.alloc _).alloc _) (by omega);have l:=y.am (g▸((h.alloc _).alloc _).am s:bV N c f);rw[<- g] at u p i;have hex:eO t=L:=by rw[<- w];cases t;rfl
 rw[hex] at v ⊢;refine (k f n (by rw[g];simp only[au];omega) (l.mW).2.2.2.1 g.symm u l q p (λj o m=>?_) v).mono (λe j m=>⟨m.1,i _ _ m.2⟩);obtain⟨z,A,C,_,_⟩:=(l.am (m.am s)).mW;exact⟨(zu (p.at m).1).1,(zu (p.at m).2).1,z,A,C⟩
theorem Lx (n:t.k=3):ke S t:=by
 intro lb B N c d W a v q i m j h u;obtain⟨b,_,_,rfl,_⟩:=m.ptr;refine pR q m j i h ([t.s]) (by unfold lM;rw[ae (by omega),ae (by omega),ag n]) u ?_;intro H F r s w l y x z f o;obtain⟨D,E,p,A,C⟩:=f.o _ _ l.o;go_enter func158,ntmps158;go_upto_region 1 with fail;rw[n] at p f;go_upto_region 11 with fail;go_region_held3 (λk=>k.cell? (xD W.heap.size 0)=some (xP lb)/\k.cell? (xD (W.heap.size+1) 0)=some (xP b)/\k.cell? (xD b 2)=some (.string t.s)) (first|go_keep|exact⟨(f.o _ _ g).1,(f.o _ _ g).2.1,(f.o _ _ g).2.2.2.1⟩) (first|(go_at_call 89;refine (pO l.o [t.s] 1 rfl (by have:=o.o;simp only[aP,bJ,cw] at this ⊢;omega) _ rfl).mono ?_;rintro e G ⟨rfl,g⟩));all_goals first|go_end0|refine bodyPost_ret (results_none rfl _ _ _) rfl ?_
 all_goals exact⟨rfl,g⟩
theorem Zb (o:t.k=1):ke S t:=by
 intro lb B N c d W a v s j n k h x;obtain⟨b,_,_,rfl,_⟩:=n.ptr;refine pR s n k j h ([wd 1]) (by unfold lM;rw[ae (by omega),ag (by omega),o]) x ?_;intro I G u w y i z p A f q;obtain⟨E,F,r,C,D⟩:=f.o _ _ i.o;go_enter func158,ntmps158;go_upto_region 1 with fail;rw[o] at r f;have l:gJ[1]?=some (wd 1):=y1 (by omega);go_upto_region 9 with fail;go_region_held3 (λm=>m.cell? (xD W.heap.size 0)=some (xP lb)/\m.cell? (xD (W.heap.size+1) 0)=some (xP b)/\m.cell? (xD b 0)=some (xI 1)) (first|go_keep|exact⟨(f.o _ _ g).1,(f.o _ _ g).2.1,(f.o _ _ g).2.2.1⟩) (first|(go_at_call 89;refine (pO i.o [wd 1] 1 rfl (by have:=q.o;simp only[aP,bJ,cw] at this ⊢;omega) _ rfl).mono ?_;rintro e H ⟨rfl,g⟩)|(go_at_call 192;refine (sj S 1 (wd 1) l _ (Kn.ln p.o i.o.drew (by omega)).gl).mono ?_;rintro e J ⟨rfl,rfl⟩));all_goals first|go_end0|refine bodyPost_ret (results_none rfl _ _ _) rfl ?_
 all_goals exact⟨rfl,g⟩
theorem Lw (u:t.k=0)(K:t.n<=9223372036854775807):ke S t:=by
 intro lb B N c d W a v z o s r h D;obtain⟨b,_,_,rfl,_⟩:=s.ptr;refine pR z s r o h ([pQ t.n]) (by unfold lM;rw[ag u]) D ?_;intro Q O A C E m G w H f x;obtain⟨L,M,y,I,J⟩:=f.o _ _ m.o;go_enter func158,ntmps158;go_upto_region 1 with fail;rw[u] at y f;have n:aa (∀i,Kn S i->xK 191 #[xI t.n,xI 10] i λe j=>e=.returned (.string (pQ t.n))/\xB i j):=by intro i q;refine (Tryz.strconv_FormatInt_10 (t.n:Int) (by omega) (by omega) i q.oy).mono ?_;rintro e j ⟨rfl,k,F,rfl⟩;exact⟨rfl,Lib.below_grow _ i (an _) k F⟩
 go_upto_region 6 with fail;go_region_held3 (λj=>j.cell? (xD W.heap.size 0)=some (xP lb)/\j.cell? (xD (W.heap.size+1) 0)=some (xP b)/\j.cell? (xD b 4)=some (xI t.n)) (first|go_keep|exact⟨(f.o _ _ l).1,(f.o _ _ l).2.1,(f.o _ _ l).2.2.2.2⟩|exact⟨(f.o _ _ g.o).1,(f.o _ _ g.o).2.1,(f.o _ _ g.o).2.2.2.2⟩|exact⟨(f.o _ _ (g.o.alloc _)).1,(f.o _ _ (g.o.alloc _)).2.1,(f.o _ _ (g.o.alloc _)).2.2.2.2⟩) (first|(go_at_call 89;refine (fY g.o [pQ t.n] 1 rfl (by have:=x.o;simp only[aP,bJ,cw] at this ⊢;omega) _ rfl).mono ?_;rintro e P ⟨rfl,l⟩)|(go_at_call 191;refine (n.o _ (Kn.ln w.o m.o.drew (by omega))).mono ?_;rintro e R ⟨rfl,p⟩;have g:=za (m.o.drew.aH p)));all_goals first|go_end0|refine bodyPost_ret (results_none rfl _ _ _) rfl ?_
 all_goals exact⟨rfl,l⟩
theorem Tz (Q:5<=t.k)(F:y9 S t):ke S t:=by
 intro lb B N c d W a v x j y n h I;obtain⟨b,_,_,rfl,_⟩:=y.ptr;refine pR x y n j h ([jM]++(iy t.k t.s (t.ts.map Tm.k) (hH t.ts)++[kr])) (by unfold lM;rw[ae (by omega),ae (by omega),ae (by omega),ae (by omega)]) I ?_;intro q p G H J r D C K g l;obtain⟨Y,q0,L,M,P⟩:=g.o _ _ r.o;go_enter func158,ntmps158;go_upto_region 1 with fail;have i:aa (∀m f,aQ lb B q p m f->(f++iy t.k t.s (t.ts.map Tm.k) (hH t.ts)).length<=10000000000->xK 194 #[xP lb,xP b] m (ey lb B q p (f++iy t.k t.s (t.ts.map Tm.k) (hH t.ts)))):=λm f E o=>F lb B N q p m f _ x j D.o C.o E o;have R:¬((t.k:Int)=0):=by omega
 have T:¬((t.k:Int)=1):=by omega
 have U:¬((t.k:Int)=2):=by omega
 have V:¬((t.k:Int)=3):=by omega
 have X:¬((t.k:Int)=4):=by omega
 obtain⟨O,w⟩:∃O,iy t.k t.s (t.ts.map Tm.k) (hH t.ts)=O:=⟨_,rfl⟩;rw[w] at i l;have k:=trivial;go_wp2_with (clear k;go_at_call 89;refine (fY r.o [jM] 1 rfl (by have:=l.o;simp only[aP,bJ,cw] at this ⊢;omega) _ rfl).mono ?_);rintro e w1 ⟨rfl,s⟩;obtain⟨Z,ar,_,_,_⟩:=g.o _ _ s;have k:=trivial;go_wp2_with (clear k;go_at_call 194;refine (i.o _ _ s (by have:=l.o;simp only[aP,bJ,cw] at this ⊢;omega)).mono ?_);rintro e w2 ⟨rfl,u⟩;obtain⟨ab,q2,_,_,_⟩:=g.o _ _ u;have k:=trivial;go_wp2_with (clear k;go_at_call 89;refine (fY u [kr] 1 rfl (by have:=l.o;simp only[aP,bJ,cw] at this ⊢;omega) _ rfl).mono ?_;rintro e w3 ⟨rfl,A⟩);first|go_end0|refine bodyPost_ret (results_none rfl _ _ _) rfl ?_
 exact⟨rfl,by have z:=A;rw[<- w] at z;simpa [bw] using z⟩
end
section
open Go.RowKit Go.Shelf
variable {N S:Nat} {k:Nat×Nat} {t:Tm}
theorem Rn:∀(l:List (Nat×Int)) (h:Nat),(∀i∈l,∃m:Nat,i=(2,(m:Int))/\m<S)->Pc S N (h+l.length) h l
 | [],h,_=>Pc.nil
 | i::l,h,a=>by obtain⟨m,rfl,c⟩:=a i (Mx ..);exact Pc.kZ (R:=[(2,(m:Int))]) (Pc.store c) (Rn l h (λj b=>a j (cS _ b)))
theorem Sd {S N:Nat}:∀(l:List (Nat×Int)) (h:Nat),(∀i∈l,∃m:Nat,i=(1,(m:Int))/\m<S)->Pc S N h (h+l.length) l
 | [],h,_=>Pc.nil
 | i::l,h,a=>by obtain⟨m,rfl,c⟩:=a i (Mx ..);have:=Sd (S:=S) (N:=N) l (h+1) (λj b=>a j (cS _ b));rw[show h+1+l.length=h+(l.length+1) by omega] at this;exact Pc.kZ (R:=[(1,(m:Int))]) (Pc.load c) this
theorem QJ:∀(l:List (Nat×Int)),(∀i∈l,i.1≠0)->ML l<=2*l.length
 | [],_=>an 0
 | i::l,h=>by have a:=OR i.1 i.2 (h i (Mx ..));have d:=QJ l (λj c=>h j (cS _ c));have:ML (i::l)=ML [i]+ML l:=OB [i] l;rw[this,bJ];have b:ML [i]<=2:=a;omega
def Oy (c:Sc)(k:Nat×Nat):Prop:=k.2=0∨k.1<=c.nd.ak.length
theorem QE (c:Sc)(i:Nat):Oy c (c.of i):=by
 unfold Oy Sc.of;cases c.nd.ak[i]? with
 | none=>exact .inl rfl
 | some v =>
   show (c.own v).2=0∨(c.own v).1<=c.nd.ak.length;unfold Sc.own;split
   . exact .inl rfl
   exact .inr (O8 c v.ck)
theorem UO (c:Sc)(k:Nat×Nat):Oy c (c.up k):=by
 unfold Sc.up;split
 . exact QE c _
 exact .inl rfl
theorem US {c:Sc}{i:Nat}(h:Oy c k):Oy c (c.operand t i k):=by
 unfold Sc.operand;split
 . exact QE c _
 split
 . exact .inr (O8 c t.s)
 exact h
theorem Rs (c:Sc)(b:Nat):∀(f:Nat) (k:Nat×Nat),Oy c k->ML (z8 c b f k)<=2+4*f/\∀S N h,b+c.nd.ak.length+1<=S->Pc S N h (h+1) (z8 c b f k)
 | 0,k,_=>⟨OR 1 _ (by decide),λS N h d=>Pc.load (by omega)⟩
 | f+1,k,j=>by
   rw[z8];split
   . exact⟨aJ (OR 1 _ (by decide)) (by omega),λS N h d=>Pc.load (by omega)⟩
   rename_i i
   obtain⟨q,m⟩:=Rs c b f (c.up k) (UO c k);have l:k.1<=c.nd.ak.length:=j.resolve_left i;have n:=OR 1 ((b+k.1:Nat):Int) (by decide);have e:z8 c b f (c.up k)++(1,((b+k.1:Nat):Int))::((if k.2=2 then [(8,0)] else [])++[(9,0)])=z8 c b f (c.up k)++([(1,((b+k.1:Nat):Int))]++((if k.2=2 then [(8,0)] else [])++[(9,0)])):=rfl;rw[e];refine⟨?_,λS N h d=>(m S N h d).kZ (Pc.kZ (Pc.load (by omega)) ?_)⟩
   . rw[OB,OB,OB];have o:ML (if k.2=2 then [((8:Nat),(0:Int))] else [])<=1:=(by split <;> decide);have p:ML [((9:Nat),(0:Int))]<=1:=(by decide);omega
   have g:Pc S N (h+1+1) (h+1) [(9,0)]:=Pc.oper (h:=h) (a:=2) rfl;split
   . exact (Pc.oper (h:=h+1) (a:=1) rfl).kZ g
   exact g
theorem Sf:∀t:Tm,Bk t=true->PU (MI t)
 | .mk k a s b n c,h=>by
   rw[Bk,Bool.and_eq_true,decide_eq_true_eq] at h;rw[MI];unfold PU;split
   . omega
   split
   . unfold wrap64;omega
   split <;> omega
theorem Vm:∀a:List Tm,ti a=true->PU (N1 a)
 | [],_=>by rw[N1];unfold PU;omega
 | t::l,h=>by rw[ti,Bool.and_eq_true] at h;rw[N1];exact Sf t h.1
def cz (m:List (ByteArray×Nat))(t:Tm):Nat:=((bh b8 t).map (fE m)).sum
def Og (m:List (ByteArray×Nat))(a:List Tm):Nat:=((cN b8 a).map (fE m)).sum
theorem Sx (m:List (ByteArray×Nat))(k a:Nat)(s:Xb)(c n:Nat)(b:List Tm):cz m (.mk k a s c n b)=fE m (.mk k a s c n b)+Og m b:=by unfold cz Og;rw[bh,ag (show b8 (.mk k a s c n b)=true from rfl),List.map_cons,List.sum_cons]
theorem QH (m:List (ByteArray×Nat))(t:Tm)(a:List Tm):Og m (t::a)=cz m t+Og m a:=by unfold cz Og;rw[cN,List.map_append,List.sum_append]
section
variable (c:Sc) (m:List (ByteArray×Nat)) (e:Sc->Nat->Prop)
inductive Gt:Tm->Nat->Prop
 | mk (k a:Nat) (s:Xb) (nm n:Nat) (ts:List Tm) (o:Nat) (ar:dJ k ts.length=true) (nn:Bk (.mk k a s nm n ts)=true)
    (cl:k=4->∃d,c.called s=some d/\d.nd.ah=ts.length/\d.nd.aG=o/\d.nd.ah+d.nd.aG<=d.nd.ak.length/\d.nd.ak.length<=16/\e d (fa s m)) (o1:k≠4->o=1) (hr:∀u∈ts,Gt u 1):Gt (.mk k a s nm n ts) o
structure SA (l:Lt):Prop where
 gt:Gt c m e l.next 1
 ck:Oy c l.clock
def Nv:List Lt->Nat
 | []=>0
 | l::r=>9*vz l.next+13600*cz m l.next+90+Nv r
def Nu:List Lt->Nat
 | []=>0
 | l::r=>cz m l.next+Nu r
theorem P3:∀(a b:List Lt),Nv m (a++b)=Nv m a+Nv m b
 | [],b=>by rw[List.nil_append];show _=0+_;omega
 | l::a,b=>by rw[List.cons_append,Nv,Nv,P3 a b];omega
theorem P4:∀(a b:List Lt),Nu m (a++b)=Nu m a+Nu m b
 | [],b=>by rw[List.nil_append];show _=0+_;omega
 | l::a,b=>by rw[List.cons_append,Nu,Nu,P4 a b];omega
end
structure Pt (c:Sc) (m:List (ByteArray×Nat)) (BD:Sc->Nat->Prop) (lo hi o pw pc:Nat) (s s':Cd×List Lt):Prop where
 ex:∃new w n,s'.2=s.2++new/\Ly s.1 s'.1 lo hi 0 o w n/\w+Nv m new<=pw/\n+Nu m new<=pc/\∀x∈new,SA c m BD x/\x.cell<s'.1.cells.length
def O2 (a:Sc->Nat->Cd->Cd)(b e:Nat)(d:Sc)(c:Nat):Prop:=∀K,Ly K (a d b K) 0 e 1 0 (13300+13600*c) c/\b+d.nd.ak.length+1<=(a d b K).al
section
variable {g:Sc->Nat->Cd->Cd} {c:Sc} {e f hi:Nat} {m:List (ByteArray×Nat)}
theorem UR {k n:Nat}(h:dJ k n=true):k<24:=by
 unfold dJ at h
 repeat' split at h
 all_goals first|omega|cases h
theorem Vq {d:Sc}{K:Cd}(V:f<=18)(U:c.called t.s=some d)(W:d.nd.ah=t.ts.length)(X:d.nd.ah+d.nd.aG<=d.nd.ak.length)(O:d.nd.ak.length<=16)(Y:Oy c k){z:Nat}(A:O2 g (e+c.nd.ak.length+1) hi d z) :
 Ly K (NK g c e f K t k) (e+c.nd.ak.length+1) hi t.ts.length d.nd.aG (13440+13600*z) z:=by
 unfold NK;rw[U];simp only;obtain⟨b,x⟩:∃b,b=e+c.nd.ak.length+1:=⟨_,rfl⟩;rw[<- x] at A ⊢;obtain⟨a,p⟩:∃a,(List.range t.ts.length).reverse.map (λi=>((2:Nat),((b+i:Nat):Int)))=a:=⟨_,rfl⟩;obtain⟨l,o⟩:∃l,(List.range d.nd.aG).map (λi=>((1:Nat),((b+(d.nd.ah+i):Nat):Int)))=l:=⟨_,rfl⟩;rw[p,o];have ls:a.length=t.ts.length:=by rw[<- p];simp
 have Z:l.length=d.nd.aG:=by rw[<- o];simp
 obtain⟨w1,w2⟩:=Rs c e f k Y;obtain⟨q,G⟩:=A ((K.fv a).fv (z8 c e f k));obtain⟨v,w⟩:∃v,g d b ((K.fv a).fv (z8 c e f k))=v:=⟨_,rfl⟩;rw[w] at q G ⊢;have B:∀S,b+d.nd.ak.length+1<=S->∀i∈a,∃n:Nat,i=(2,(n:Int))/\n<S:=λS Q i hi=>by rw[<- p] at hi;obtain⟨j,y,rfl⟩:=List.mem_map.1 hi;have:=List.mem_range.1 (List.mem_reverse.1 y);exact⟨b+j,rfl,by omega⟩
 have D:∀S,b+d.nd.ak.length+1<=S->∀i∈l,∃n:Nat,i=(1,(n:Int))/\n<S:=λS Q i hi=>by rw[<- o] at hi;obtain⟨j,y,rfl⟩:=List.mem_map.1 hi;have:=List.mem_range.1 y;exact⟨b+(d.nd.ah+j),rfl,by omega⟩
 have ar:=QJ a (λi hi=>by obtain⟨n,rfl,_⟩:=B _ (an _) i hi;exact (by decide:(2:Nat)≠0));have z2:=QJ l (λi hi=>by obtain⟨n,rfl,_⟩:=D _ (an _) i hi;exact (by decide:(1:Nat)≠0));obtain⟨R,C,H,I,J,L,e5,M⟩:=q.ex;have u:v.row=K.row++(a++z8 c e f k++R):=by
  rw[H]
  show K.row++a++z8 c e f k++R=_;simp
 refine⟨⟨a++z8 c e f k++R++l,C,?_,I,J,L,?_,λS N h T r P=>?_⟩,q.dn,q.aG,q.s1,q.s2⟩
 . show v.row++l=_;rw[u,bw]
 . rw[OB,OB,OB];omega
 have s:b+d.nd.ak.length+1<=S:=aJ G r;have E:=Rn (S:=S) (N:=N) a h (B S s);rw[ls] at E;have ab:=w2 S N h (by omega);have p3:=M S N h (aE _) r P;have F:=Sd (S:=S) (N:=N) l h (D S s);rw[Z] at F;exact ((E.kZ ab).kZ p3).kZ F
theorem UN {I:Sc->Nat->Prop}(X:f<=18)(V:∀d md,I d md->O2 g (e+c.nd.ak.length+1) hi d md){o:Nat}(hg:Gt c m I t o)(aL:Oy c k){s l:Cd×List Lt}(aV:Pt c m I (e+c.nd.ak.length+1) hi (if t.k=9 then 0 else t.ts.length) (if t.k=9 then 0 else 9*k8 t.ts+13600*Og m t.ts) (if t.k=9 then 0 else Og m t.ts) s l) :
 Pt c m I (e+c.nd.ak.length+1) hi o (9*vz t+13600*cz m t-2*(o-1)) (cz m t) s (zs g c e f l t k):=by
 cases hg with
 | mk x a q p n j o i nn cl o1 a3 =>
   have F:(Tm.mk x a q p n j).ts=j:=rfl;have hx:(Tm.mk x a q p n j).k=x:=rfl;have ab:(Tm.mk x a q p n j).s=q:=rfl;rw[F,hx] at aV;have Z:=UR i;obtain⟨A,w,M,P,C,Q,R,H⟩:=aV.ex;rw[qz,Sx];have B:∀(O:Nat) (y:Int) (b:Nat),ML [(O,y)]<=9->x≠4->x≠9->(∀S N h,e+c.nd.ak.length+1<=S->Pc S N (h+j.length) (h+1) [(O,y)])->Pt c m I (e+c.nd.ak.length+1) hi o (9*(1+k8 j)+13600*(fE m (.mk x a q p n j)+Og m j)-2*(o-1)) (fE m (.mk x a q p n j)+Og m j) s (l.1.add O y,l.2):=(by intro O y b a0 J T a2;rw[ae T] at C Q R;have L:=o1 J;subst L;have G:Ly l.1 (l.1.add O y) (e+c.nd.ak.length+1) hi j.length 1 9 0:=Ly.fv a0 (λS N h W _=>a2 S N h W);exact⟨A,w+9,M+0,P,C.trans G,by omega,by omega,λz hz=>⟨(H z hz).1,(H z hz).2⟩⟩);unfold zs;rw[hx,ab,F];split
   . rename_i h2
     refine B 0 _ 1 (Ro _ _) (by omega) (by omega) (λS N h _=>?_);have r:j.length=0:=(by unfold dJ at i;rw[ag (by omega)] at i;simpa using i);rw[r];exact Pc.push (Sf _ nn)
   split
   . rename_i h3
     refine B 1 _ 1 (aJ (OR 1 _ (by decide)) (by decide)) (by omega) (by omega) (λS N h W=>?_);have r:j.length=0:=(by unfold dJ at i;rw[ag (by omega)] at i;simpa using i);rw[r];exact Pc.load (by have:=O8 c q;omega)
   split
   . rename_i h7
     have r:j.length=1:=(by unfold dJ at i;rw[ae (by omega),ae (by omega),ae (by omega),ae (by omega),ag (by omega)] at i;simpa using i);rw[ae (by omega),r] at C;rw[ae (by omega)] at Q R;have L:=o1 (by omega);subst L;exact⟨A,w,M,P,C,by omega,by omega,H⟩
   split
   . rename_i h6
     refine B 6 _ 1 (aJ (OR 6 _ (by decide)) (by decide)) (by omega) (by omega) (λS N h W=>?_);have r:j.length=2:=(by unfold dJ at i;rw[ae (by omega),ae (by omega),ae (by omega),ag (by omega)] at i;simpa using i);rw[r];exact Pc.choose (by have:=O8 c q;omega)
   split
   . rename_i T
     have r:j.length=2:=(by unfold dJ at i;rw[ae (by omega),ae (by omega),ae (by omega),ae (by omega),ae (by omega),ag (by omega)] at i;simpa using i);rw[ag T] at C Q R;have L:=o1 (by omega);subst L;obtain⟨u,v,rfl⟩:∃u v,j=[u,v]:=by
      match j,r with
      | [u,v],_=>exact⟨u,v,rfl⟩
     have E:fE m (.mk x a q p n [u,v])=1:=(by unfold fE;rw[ag (show (Tm.mk x a q p n [u,v]).k=9 from T)]);have aA:ti [u,v]=true:=(by rw[Bk,Bool.and_eq_true] at nn;exact nn.2);have G:Ly l.1 ((l.1.cell (N1 [u,v])).add 3 l.1.cells.length) (e+c.nd.ak.length+1) hi 0 1 2 1:=by
      refine⟨⟨[(3,(l.1.cells.length:Int))],[N1 [u,v]],rfl,rfl,λz hz=>?_,an _,OR 3 _ (by decide),λS N h _ _ hN=>?_⟩,rfl,rfl,an _,by show l.1.al<=_;omega⟩
      . rw[cu.1 hz];exact Vm _ aA
      refine Pc.Ur ?_;have:(l.1.cells++[N1 [u,v]]).length<=N:=hN;simp at this;omega
     have Y:((l.1.cell (N1 [u,v])).add 3 l.1.cells.length).cells.length=l.1.cells.length+1:=(by show (l.1.cells++[N1 [u,v]]).length=_;simp);rw[E];have a4:=zf u [v];have q2:=zf v [];have q3:=QH m u [v];have q4:=QH m v [];have q5:=Y9;refine⟨A++[⟨l.1.cells.length,v,k⟩],w+2,M+1,by show l.2++_=_;rw[P,bw],C.trans G,?_,?_,λz hz=>?_⟩
     . rw[P3,Nv,Nv];show w+2+(Nv m A+(9*vz v+13600*cz m v+90+0))<=_;omega
     . rw[P4,Nu,Nu];show M+1+(Nu m A+(cz m v+0))<=_;omega
     show _/\_<((l.1.cell (N1 [u,v])).add 3 l.1.cells.length).cells.length;rw[Y];rcases bj.1 hz with hz|hz
     . have:=H z hz;exact⟨this.1,by omega⟩
     rw[cu.1 hz];exact⟨⟨a3 v (by simp),aL⟩,cf _⟩
   split
   . rename_i J
     obtain⟨d,d1,d2,d3,d4,d5,d6⟩:=cl J;rw[ae (by omega)] at C Q R;have G:=Vq (t:=.mk x a q p n j) (K:=l.1) X d1 d2 d4 d5 aL (V d _ d6);rw[F,d3] at G;have E:fE m (.mk x a q p n j)=1+fa q m:=(by unfold fE;rw[ae (show ¬(Tm.mk x a q p n j).k=9 by rw[hx];omega),ag (show (Tm.mk x a q p n j).k=4 from J)];rfl);have a1:=G.cl;rw[E];refine⟨A,w+(13440+13600*fa q m),M+fa q m,P,C.trans G,by omega,by omega,λz hz=>⟨(H z hz).1,by have:=(H z hz).2;show z.cell<(NK g c e f l.1 _ k).cells.length;omega⟩⟩
   rename_i h1 h2 h3 J h5 h6
   refine B (Pq x) 0 1 (Ro _ _) h6 h5 (λS N h _=>?_);by_cases U:x=5
   . have r:j.length=3:=(by unfold dJ at i;rw[ae (by omega),ae (by omega),ag (by omega)] at i;simpa using i);rw[r,U];exact Pc.oper (a:=3) rfl
   have ar:=Vu (k:=x) (by omega) Z;have r:j.length=if x<=11 then 1 else 2:=by
    unfold dJ at i;rw[ae (by omega),ae (by omega),ae (by omega),ae (by omega),ae (by omega),ae (by omega)] at i;by_cases D:x<=11
    . rw[ag D] at i ⊢;simpa using i
    rw[ae D,ag (by omega)] at i;rw[ae D];simpa using i
   rw[r];exact Pc.oper ar
theorem Sw {r:Sc->Nat->Prop}(D:f<=18)(C:∀d P,r d P->O2 g (e+c.nd.ak.length+1) hi d P):∀(t:Tm) (o:Nat),Gt c m r t o->∀(k:Nat×Nat),Oy c k->∀s:Cd×List Lt,
 Pt c m r (e+c.nd.ak.length+1) hi o (9*vz t+13600*cz m t-2*(o-1)) (cz m t) s (My g c e f s t k):=by
 intro t;induction t using Tm.ind with
 | h x a q p n b Z =>
   intro o M k O s;have X:∀u∈b,Gt c m r u 1:=(by cases M;assumption);have W:∀(l:List Tm) (i:Nat) (s:Cd×List Lt),(∀u∈l,u∈b)->Pt c m r (e+c.nd.ak.length+1) hi l.length (9*k8 l+13600*Og m l) (Og m l) s (gu c (λt _=>gH t) (λs _ _=>s) (zs g c e f) (.mk x a q p n b) k l i s):=by
    intro l;induction l with
    | nil=>intro i s _;rw[gu];exact⟨[],0,0,by simp,Ly.refl,by show 0+0<=_;omega,by show 0+0<=_;omega,λz hz=>by cases hz⟩
    | cons u l I =>
      intro i s w;rw[gu];obtain⟨n1,w1,T,y,A,a3,a4,B⟩:=(Z u (w u (Mx ..)) 1 (X u (w u (Mx ..))) (c.operand (.mk x a q p n b) i k) (US O) s).ex;unfold My at y A B;obtain⟨J,F⟩:∃J,gK c (λt _=>gH t) (λs _ _=>s) (zs g c e f) u (c.operand (.mk x a q p n b) i k) s=J:=⟨_,rfl⟩;rw[F] at y A B ⊢;obtain⟨n2,w2,U,Q,K,b3,b4,R⟩:=(I (i+1) J (λv Y=>w v (cS _ Y))).ex;have L:=K.up 1;rw[show 1+0=1 from rfl,Nat.add_comm 1 l.length] at L;have V:=K.cl;refine⟨n1++n2,w1+w2,T+U,by rw[Q,y,bw],A.trans L,?_,?_,λz hz=>?_⟩
      . rw[P3,zf,QH];omega
      . rw[P4,QH];omega
      rcases bj.1 hz with hz|hz
      . have:=B z hz;exact⟨this.1,by omega⟩
      exact R z hz
   unfold My;rw[gK];refine UN D C M O ?_;have H:(Tm.mk x a q p n b).k=x:=rfl;have G:(Tm.mk x a q p n b).ts=b:=rfl;rw[H,G];by_cases j:x=9
   . have E:gH (.mk x a q p n b)=false:=(by unfold gH;rw[H,j];rfl);rw[ae (show ¬(gH (Tm.mk x a q p n b)=true) by rw[E];decide),ag j,ag j,ag j];exact⟨[],0,0,by simp,Ly.refl,an _,an _,λz hz=>by cases hz⟩
   have E:gH (.mk x a q p n b)=true:=(by unfold gH;rw[H];simpa using j);rw[ag E,ae j,ae j,ae j];exact W b 0 s (λu w=>w)
end
end
end Go.Proofs.YtbicmofihhjgbaaGreatDoor
