/- Part 15 of the proof. -/
import Derived.Test.YtbicmofihhjgbaaGreatDoorK13
set_option maxRecDepth 100000
set_option maxHeartbeats 8000000
namespace Go.Proofs.YtbicmofihhjgbaaGreatDoor
open Go.Proofs.Tryz
open Go.RowKit
section
variable {d:Xm} {f l n b:Nat} {a:Xp} {e:Xy} {v:Xv}
def Ni (w:Xw)(f:Nat)(e:Xy)(b:Nat)(v:Xv)(n:Nat)(d:Xm):Prop :=
 d.length=n*b/\((v=.slice none 0 0/\n=0) ∨
  ∃g o c h,v=.slice (some (xD g o)) n c/\f<=g/\w.heap[g]?=some (.cells h e (0,0))/\n<=c/\c<=maxLen/\o+c*b<=h.size/\(h.toList.drop o).take (n*b)=d)
theorem SY {w:Xw}(h:w.ownsRow f e b v n d):Ni w f e b v n d:=by
 refine⟨h.1,?_⟩;rcases h.2 with h|⟨g,c,i,j,k,m,o,p,r,q⟩
 . exact ao h
 exact ap ⟨g,0,c,i,j,k,m,o,p,by omega,by simpa using q⟩
theorem S0 (w:Xw)(f:Nat)(e:Xy)(b:Nat):Ni w f e b (.slice none 0 0) 0 []:=⟨by simp,ao ⟨rfl,rfl⟩⟩
theorem Ni.lt {w:Xw}(h:Ni w f e b v n d):∀k,v.ownBlock=some k->f<=k/\k<w.heap.size:=by
 intro k c;rcases h.2 with ⟨rfl,_⟩|⟨g,o,i,j,rfl,m,p,_⟩
 . simp[Value.ownBlock] at c
 simp[Value.ownBlock] at c;subst c;exact⟨m,ze p⟩
theorem O4 {w p:Xw}(h:Ni w f e b v n d)(s:∀k,f<=k->k<w.heap.size->v.ownBlock=some k->p.heap[k]?=w.heap[k]?):Ni p f e b v n d:=by
 refine⟨h.1,?_⟩;rcases h.2 with q|⟨g,o,c,i,rfl,j,m,r⟩
 . exact ao q
 exact ap ⟨g,o,c,i,rfl,j,(s g j (ze m) rfl).trans m,r⟩
theorem QM {w:Xw}(h:Ni w f e b v n d):∃x l,v=.slice x n l:=by
 rcases h.2 with ⟨j,k⟩|⟨g,o,c,i,rfl,_⟩
 . exact⟨none,0,by rw[j,k]⟩
 exact⟨_,c,rfl⟩
theorem P8 {w:Xw}(h:Ni w f e b (.slice a n l) n d){j:Nat}{u:Xv}(c:d[j]?=some u):∃g o,a=some (xD g o)/\w.cell? (xD g (o+j))=some u:=by
 have s:=(aB.1 c).1;rcases h.2 with ⟨k,m⟩|⟨g,o,p,i,k,m,q,t,x,y,r⟩
 . have:=h.1;rw[m] at this;omega
 cases k;refine⟨g,o,rfl,?_⟩;have:i[o+j]?=some u:=by
  rw[<- r,List.getElem?_take] at c;split at c
  . rw[List.getElem?_drop] at c;simpa using c
  cases c
 simp[World.cell?,q,this]
theorem Wc {P:Program}{t:Xy}(x:P.underlying t=some (.slice e))(j:∀w,(sizeOf e).run P w=.ok b w){w:Xw}(h:Ni w f e b (.slice a (n+1) l) (n+1) d) :
 ∃m c,(∀W,(Instr.slice t (.slice a (n+1) l) (some (xI 1)) none none).run P W=.ok (.slice m n c) W)/\Ni w f e b (.slice m n c) n (d.drop b)/\(∀k,(Value.slice m n c).ownBlock=some k->(Value.slice a (n+1) l).ownBlock=some k):=by
 rcases h.2 with ⟨r,p⟩|⟨g,o,z,i,r,p,s,D,E,F,A⟩
 . omega
 cases r;have C:(1:Int)<=(n:Int)+1:=by omega
 have y:(d.drop b).length=n*b:=by rw[List.length_drop,h.1,Nat.add_mul];omega
 by_cases u:l=1
 . subst u;have B:n=0:=by omega
   subst B;refine⟨some (xD g o),0,λW=>by simp[Instr.slice,Instr.sliceBounds,Instr.sliceBound,run_underlying x,j,asIntOf],⟨y,ap ⟨g,o,0,i,rfl,p,s,by omega,by omega,by omega,?_⟩⟩,λk q=>q⟩;have:(d.drop b).length=0:=by omega
   rw[List.eq_nil_of_length_eq_zero this];simp
 refine⟨some (xD g (o+b)),l-1,λW=>by simp[Instr.slice,Instr.sliceBounds,Instr.sliceBound,run_underlying x,j,asIntOf,u,Addr.add_lit,C],⟨y,ap ⟨g,o+b,l-1,i,rfl,p,s,by omega,by omega,?_,?_⟩⟩,λk q=>q⟩
 . have:(l-1)*b+b=l*b:=by rw[<- Nat.succ_mul,show (l-1).succ=l by omega]
   omega
 rw[<- A,List.drop_take,List.drop_drop];congr 1;rw[Nat.add_mul];omega
section
variable {P:Program} (w:Xw)
theorem VH (t F e:Xy)(i:TypeInfo)(E:P.underlying t=some (.slice e))(C:P.info? e=some i)
 (g o k q:Nat) (p:Xa) (B:xH w g p e)
 (a:Addr) (m c:Nat) (h:Xm) (D:h.length=m*i.size) (r:∀j u,h[j]?=some u->w.cell? (a.add j)=some u) (z:∀u∈h,u.oneCell'=true)
 (s:k+m<=q) (x:o+k*i.size+h.length<=p.size) :
 (Builtin.append_ #[t,t] F #[.slice (some (xD g o)) k q,.slice (some a) m c]).run P w =
   .ok (.slice (some (xD g o)) (k+m) q) (w.setRow g (p.toList.take (o+k*i.size)++h++p.toList.drop (o+k*i.size+h.length)).toArray):=by
 have A:=run_firstCells_some (P:=P) w i.size m a m c h D r;have y:=run_storeCells_at P g (o+k*i.size) e h 0 p w B (by simpa using x) z;simp only[Nat.add_zero] at y;simp[Builtin.append_,run_underlying E,sizeOf,typeInfo,C,Builtin.lenOf,s,A,Addr.add_lit,y]
theorem Wp (f:Nat)(t T e:Xy)(i:TypeInfo)(z:Xv)(b bytes:Nat)(Z:P.underlying t=some (.slice e))(X:P.info? e=some i)(hz:i.zero=some z)
 (s:i.size=b) (K:i.bytes=bytes) (R:z.cells.size=b) (Q:0<b)
 (v:Xv) (n:Nat) (d:Xm) (p:Ni w f e b v n d)
 (a:Addr) (m c:Nat) (h:Xm) (M:h.length=m*b) (q:∀j u,h[j]?=some u->w.cell? (a.add j)=some u) (h1:∀u∈h,u.oneCell'=true)
 (J:n+m<=maxLen) (x:(n+m)*bytes<=140737488355328) (B:f<=w.heap.size) :
 ∃H I,(Builtin.append_ #[t,t] T #[v,.slice (some a) m c]).run P w=.ok H I/\Ni I f e b H (n+m) (d++h)/\w.grownBy I v.ownBlock /\
  ∀k,H.ownBlock=some k->v.ownBlock=some k∨w.heap.size<=k:=by
 rcases p.2 with ⟨rfl,rfl⟩|⟨g,o,A,y,rfl,V,hg,aL,W,ar,G⟩
 . have hx:d=[]:=List.eq_nil_of_length_eq_zero (by simpa using p.1);subst hx;obtain⟨H,I,O,S,D,h4⟩:=G6 (P:=P) w f t T e i z b bytes Z X hz s K R Q (.slice none 0 0) 0 [] (World.ownsRow_nil w f e b) a m c h M q h1 J x B;exact⟨H,I,O,SY S,D,h4⟩
 have C:(d++h).length=(n+m)*b:=by rw[aP,p.1,M,Nat.add_mul]
 by_cases r:n+m<=A
 . subst s;have N:(n+m)*i.size<=A*i.size:=Nat.mul_le_mul_right _ r;have L:o+n*i.size+h.length<=y.size:=by rw[M];rw[Nat.add_mul] at N;omega
   have O:=VH (P:=P) w t T e i Z X g o n A y hg a m c h M q h1 r L;refine⟨_,_,O,⟨C,ap ⟨g,o,A,_,rfl,V,setRow_heap w g y _ e _ hg,r,W,?_,?_⟩⟩,⟨rfl,rfl,rfl,by simp,λk _ E=>setRow_other w g k _ (λe=>E (by simp[Value.ownBlock,e]))⟩,λk E=>ao E⟩
   . simp only[List.size_toArray,aP,List.length_take,List.length_drop,Array.length_toList];omega
   have U:(y.toList.take (o+n*i.size)).drop o=d:=(by rw[List.drop_take,Nat.add_sub_cancel_left];exact G);have Y:o<=(y.toList.take (o+n*i.size)).length:=by rw[List.length_take,Array.length_toList];omega
   show (List.drop o (y.toList.take (o+n*i.size)++h++_)).take _=_;rw[bw,List.drop_append_of_le_length Y,U,<- bw,<- C];exact List.take_left
 have F:∀j u,d[j]?=some u->w.cell? (((xD g o):Addr).add j)=some u:=by intro j u aA;obtain⟨g',o',U,ab⟩:=P8 p aA;cases U;rw[Addr.add_lit];exact ab
 obtain⟨H,I,O,S,D⟩:=run_append_arg_grows (P:=P) w t T e i z b bytes Z X hz s K R Q (xD g o) n A d p.1 F a m c h M q (by omega) J x;exact⟨H,I,O,SY (zR S B),⟨D.os,D.tape,D.output,D.size,λk E _=>D.block k E (by simp)⟩,λk E=>ap (S.lt k E).1⟩
theorem SL {B:Array Oper}{o:Oper}{a:Act}{K:Act->World->Prop}{Q:Exit->Act->World->Prop}{E:Prop}
 (R:o.guard=none) (s x:Operand) (t:Xy) (U:o.op=.call { callee:=.builtin .append,args:=#[s,x],argTypes:=#[t,t] })
 (f:Nat) (e:Xy) (i:TypeInfo) (z:Xv) (b bytes:Nat) (X:P.underlying t=some (.slice e)) (S:P.info? e=some i) (hz:i.zero=some z)
 (y:i.size=b) (H:i.bytes=bytes) (J:z.cells.size=b) (I:0<b)
 (v:Xv) (n:Nat) (d:Xm) (W:a.eval s=v) (A:Ni w f e b v n d)
 (F:Addr) (m c:Nat) (g:Xm) (Z:a.eval x=.slice (some F) m c) (T:g.length=m*b) (r:∀j u,g[j]?=some u->w.cell? (F.add j)=some u) (L:∀u∈g,u.oneCell'=true)
 (G:n+m<=maxLen) (p:(n+m)*bytes<=140737488355328) (q:f<=w.heap.size)
 (h:∀C D,Ni D f e b C (n+m) (d++g)->w.grownBy D v.ownBlock->(∀k,C.ownBlock=some k->v.ownBlock=some k∨w.heap.size<=k)->K (a.put o.dst C) D) :
 if Region.wanted o (yielded B a.tmps)=true then Oper.wp P o a w K Q else E:=by
 have Y:Region.wanted o (yielded B a.tmps)=true:=by simp[Region.wanted,R]
 rw[ag Y];obtain⟨C,D,V,M,N,O⟩:=Wp (P:=P) w f t o.type e i z b bytes X S hz y H J I v n d A F m c g T r L G p q;unfold Oper.wp execOp;simp only[U,resolve,invoke,builtin,Sem.run_bind,Sem.run_pure,Result.andThen_ok,List.map_toArray,List.map_cons,List.map_nil,W,Z,V];exact h C D M N O
end
end
section
variable {K:Cd} {B N n j a b g:Nat} {X:Obj} {c:Sc} {o m p d:Xv} {w w' f:Xw}
attribute [local go_sem ↓] Go.wp_at_zero Go.wp_at_succ
theorem Tryz.Ue:(prog.info? 206).map (λi=>(i.zero,i.size,i.bytes))=some (some (.agg #[xI 0,.pointer none,xI 0,xI 0]),4,32):=by kernel_rfl
def Cd.cell (K:Cd)(x:Int):Cd:={ K with cells:=K.cells++[x] }
theorem Wt (l:List Int)(x:Int):zK (l++[x])=zK l++[xI x]:=by simp[zK]
theorem KI.Re {D r E:Xv}{x:Int}(h:KI B g a D r E K w)(hF:Fr (λk=>r.ownBlock=some k) (w.alloc X) f)
 (y:f.ownsRow B 2 1 d (K.cells.length+1) (zK K.cells++[xI x])) (i:∀k,d.ownBlock=some k->r.ownBlock=some k∨w.heap.size+1<=k) :
 KW B g a (K.cell x) (f.setCell (xD a 3) d)/\FT (KT a) w (f.setCell (xD a 3) d):=by
 have J:=h.hB;have z:=h.MF;have u:=h.MC;have I:(w.alloc X).heap.size=w.heap.size+1:=by simp
 have H:=hF.size;have G:∀k,k<w.heap.size->¬r.ownBlock=some k->f.heap[k]?=w.heap[k]?:=λk q C=>(hF.block k (by omega) C).trans (Below.heap_alloc _ _ _ q);have l:∀k,k<w.heap.size->¬k=a->¬r.ownBlock=some k->(f.setCell (xD a 3) d).heap[k]?=w.heap[k]?:=λk q A t=>zr A (G k q t);have v:∀k,k<B->¬r.ownBlock=some k:=λk q e=>by have:=(h.hQ.lt _ e).1;omega
 have F:KI B g a D d E (K.cell x) (f.setCell (xD a 3) d):=by
  refine⟨(l g (by omega) h.dk (v g z)).trans h.wr,?_,zi h.xv (λk A t e=>l k t (by omega) (h.d1 k e).1),?_,zi h.zA (λk A t e=>l k t (by omega) (λs=>h.d2 k s e)),z,u,h.dk,λk e=>⟨λs=>?_,(h.d1 k e).2⟩,λk e s=>?_,?_⟩
  . exact zh _ _ _ _ ((G a (by omega) (v a u)).trans h.aC)
  . have:=zi y (w':=f.setCell (xD a 3) d) (λk A t _=>zr (by omega) rfl);rw[<- Wt] at this
    show World.ownsRow _ B 2 1 d (K.cells++[x]).length _;rw[aP];exact this
  . rcases i k s with e2|e2
    . exact (h.d1 k e).1 e2
    have:=(h.xv.lt _ e).2;omega
  . rcases i k e with e2|e2
    . exact h.d2 k e2 s
    have:=(h.zA.lt _ s).2;omega
  have:(f.setCell (xD a 3) d).heap.size=f.heap.size:=by simp
  omega
 refine⟨⟨D,d,E,F⟩,⟨hF.os,hF.tape,hF.output,?_,λk q C=>?_⟩,λk q=>?_⟩
 . have:(f.setCell (xD a 3) d).heap.size=f.heap.size:=by simp
   omega
 . exact l k q (λe=>C ((h.kt k).2 (ao e))) (λe=>C ((h.kt k).2 (ap (ap (ao e)))))
 rcases (F.kt k).1 q with e|e|e|e
 . exact ao ((h.kt k).2 (ao e))
 . exact ao ((h.kt k).2 (ap (ao e)))
 . rcases i k e with e2|e2
   . exact ao ((h.kt k).2 (ap (ap (ao e2))))
   exact ap (by omega)
 exact ao ((h.kt k).2 (ap (ap (ap e))))
structure Lt where
 cell:Nat
 next:Tm
 clock:Nat×Nat
def OK (w:Xw)(N:Nat):List Lt->List Value->Prop
 | [],e=>e=[]
 | l::i,e=>∃v h,e=(xI (l.cell:Int))::v::(xI (l.clock.1:Nat))::(xI (l.clock.2:Nat))::h/\TT w N l.next v/\OK w N i h
theorem OK.am (s:bV N w w'):∀{e:List Lt} {i:Xm},OK w N e i->OK w' N e i:=by
 intro e;induction e with
 | nil=>intro i h;exact h
 | cons l e t => rintro i ⟨v,u,k,q,r⟩;exact⟨v,u,k,q.am s,t r⟩
theorem OK.snoc (l:Lt)(v:Xv)(s:TT w N l.next v):∀{e:List Lt} {i:Xm},OK w N e i->OK w N (e++[l]) (i++[xI (l.cell:Int),v,xI (l.clock.1:Nat),xI (l.clock.2:Nat)]):=by
 intro e;induction e with
 | nil=>intro i h;cases h;exact⟨v,[],rfl,s,rfl⟩
 | cons u e t => rintro i ⟨d,x,k,q,r⟩;subst k;exact⟨d,_,rfl,q,t r⟩
def CT (a b:Nat)(w:Xw)(k:Nat):Prop:=KT a w k∨k=b∨Pm w b 4 k
structure WL (N B g a b j n:Nat) (c:Sc) (o p m:Xv) (K:Cd) (ls:List Lt) (w:Xw):Prop where
 wi:WI N B g a b j n c o p m K w
 row:∃xs,Ni w B 206 4 m ls.length xs/\OK w N ls xs
 dl:∀k,m.ownBlock=some k->¬KT a w k/\¬k=b/\¬k=j
 dq:¬b=j
 dw:¬b=g
 NO:N<=b
theorem WL.ct {r:List Lt}(h:WL N B g a b j n c o p m K r w)(k:Nat):CT a b w k↔KT a w k∨k=b∨m.ownBlock=some k:=by
 obtain⟨s,t,u,x,l,y,z⟩:=bz h.wi.qi.aC;unfold CT;constructor
 . rintro (e|e|⟨v,i,q⟩)
   . exact ao e
   . exact ap (ao e)
   rw[l] at i;cases i;exact ap (ap q)
 rintro (e|e|e)
 . exact ao e
 . exact ap (ao e)
 exact ap (ap ⟨_,l,e⟩)
theorem WL.aq {l:List Lt}(h:WL N B g a b j n c o p m K l w)(i:xB w w'):WL N B g a b j n c o p m K l w':=by obtain⟨u,r,s⟩:=h.row;exact⟨h.wi.aq i,⟨u,O4 r (λk _ t _=>i.block k t),s.am (zm i h.wi.qi.hN)⟩,λk e=>⟨λq=>(h.dl k e).1 (h.wi.kw.tk i _ q),(h.dl k e).2⟩,h.dq,h.dw,h.NO⟩
theorem WL.tk {q:List Lt}(h:WL N B g a b j n c o p m K q w)(i:xB w w'):∀k,CT a b w' k->CT a b w k:=by
 intro k l;rcases ((h.aq i).ct k).1 l with e|e|e
 . exact (h.ct k).2 (ao (h.wi.kw.tk i _ e))
 . exact (h.ct k).2 (ap (ao e))
 exact (h.ct k).2 (ap (ap e))
theorem WL.lt {r:List Lt}(h:WL N B g a b j n c o p m K r w):∀k,CT a b w k->N<=k/\k<w.heap.size/\¬k=j:=by
 intro k q;obtain⟨u,l,_⟩:=h.row;have s:=h.wi.kw.kb;have t:=h.wi.NN;rcases (h.ct k).1 q with e|e|e
 . exact⟨h.wi.Pe k e,h.wi.kw.lt k e,λi=>h.wi.nc (i▸e)⟩
 . subst e;exact⟨h.NO,ze h.wi.qi.aC,h.dq⟩
 have:=l.lt k e;exact⟨by omega,this.2,(h.dl k e).2.2⟩
theorem WL.N6 {q:Cd}{r:List Lt}(h:WL N B g a b j n c o p m K r w)(l:KW B g a q w')(i:FT (KT a) w w'):WL N B g a b j n c o p m q r w'/\FT (CT a b) w w':=by
 obtain⟨v,s,u⟩:=h.row;have t:WL N B g a b j n c o p m q r w':=⟨h.wi.ft l i,⟨v,O4 s (λk _ l e=>i.fr.block k l (h.dl k e).1),u.am (i.am h.wi.qi.hN h.wi.Pe)⟩,λk e=>⟨i.not (s.lt k e).2 (h.dl k e).1,(h.dl k e).2⟩,h.dq,h.dw,h.NO⟩;refine⟨t,i.fr.mono (λk _ e=>ao e),λk l=>?_⟩;rcases (t.ct k).1 l with e|e|e
 . exact (i.tk k e).imp (λe=>ao e) id
 . exact ao (ap (ao e))
 exact ao ((h.ct k).2 (ap (ap e)))
theorem WL.put {F:List Lt}(l:Lt)(v:Xv)(h:WL N B g a b j n c o p m K F w)(hv:TT w N l.next v)(hF:Fr (λk=>m.ownBlock=some k) (w.alloc X) f)(O:Xm)(M:OK w N F O)
 (D:Ni f B 206 4 d (F.length+1) (O++[xI (l.cell:Int),v,xI (l.clock.1:Nat),xI (l.clock.2:Nat)])) (u:∀k,d.ownBlock=some k->m.ownBlock=some k∨w.heap.size+1<=k) :
 WL N B g a b j n c o p d K (F++[l]) (f.setCell (xD b 4) d)/\FT (CT a b) w (f.setCell (xD b 4) d):=by
 obtain⟨_,V,_⟩:=h.row;have aA:(w.alloc X).heap.size=w.heap.size+1:=by simp
 have ar:=hF.size;have ab:(f.setCell (xD b 4) d).heap.size=f.heap.size:=by simp
 have H:∀k,k<w.heap.size->¬m.ownBlock=some k->f.heap[k]?=w.heap[k]?:=λk q G=>(hF.block k (by omega) G).trans (Below.heap_alloc _ _ _ q);have s:∀k,k<w.heap.size->¬k=b->¬m.ownBlock=some k->(f.setCell (xD b 4) d).heap[k]?=w.heap[k]?:=λk q R S=>zr R (H k q S);have y:∀k,KT a w k->¬k=b/\¬m.ownBlock=some k:=λk e=>⟨λx=>h.wi.nq (x▸e),λx=>(h.dl k x).1 e⟩;obtain⟨P,Q,W,i⟩:=h.wi.kw;have L:=ze h.wi.qi.aC;have Y:=i.MC;have Z:=i.MF;have z:=y a ((i.kt a).2 (ao rfl));have E:¬m.ownBlock=some g:=λe=>by have:=(V.lt g e).1;omega
 have t:∀k,k<w.heap.size->KT a w k->f.heap[k]?=w.heap[k]?/\(f.setCell (xD b 4) d).heap[k]?=w.heap[k]?:=λk q e=>⟨H k q (y k e).2,s k q (y k e).1 (y k e).2⟩;have J:(f.setCell (xD b 4) d).heap[g]?=w.heap[g]?:=s g (by have:=i.hB;omega) (λe=>h.dw e.symm) E;have T:bV N w (f.setCell (xD b 4) d):=λk q=>s k (dD q h.wi.qi.hN) (by have:=h.NO;omega) (λe=>by have:=(V.lt k e).1;have:=h.wi.NN;omega)
 have C:KI B g a P Q W K (f.setCell (xD b 4) d) :=
  ⟨J.trans i.wr,(s a (by have:=i.hB;omega) z.1 z.2).trans i.aC,zi i.xv (λk _ q e=>(t k q ((i.kt k).2 (ap (ao e)))).2),zi i.hQ (λk _ q e=>(t k q ((i.kt k).2 (ap (ap (ao e))))).2),zi i.zA (λk _ q e=>(t k q ((i.kt k).2 (ap (ap (ap e))))).2),i.MF,i.MC,i.dk,i.d1,i.d2,by have:=i.hB;omega⟩
 have r:∀k,KT a (f.setCell (xD b 4) d) k↔KT a w k:=λk=>(C.kt k).trans (i.kt k).symm;have I:(f.setCell (xD b 4) d).heap[j]?=w.heap[j]?:=s j h.wi.qi.ck.lt (λe=>h.dq e.symm) (λe=>(h.dl j e).2.2 rfl);have A:¬m.ownBlock=some b:=λe=>(h.dl b e).2.1 rfl;have U:WL N B g a b j n c o p d K (F++[l]) (f.setCell (xD b 4) d):=by
  refine⟨⟨⟨P,Q,W,C⟩,⟨zh _ _ _ _ ((H b L A).trans h.wi.qi.aC),h.wi.qi.sc.am T,h.wi.qi.ck.gh I,by have:=h.wi.qi.hN;omega⟩,λe=>h.wi.nq ((r b).1 e),λe=>h.wi.nc ((r j).1 e),h.wi.NN⟩,⟨O++[xI (l.cell:Int),v,xI (l.clock.1:Nat),xI (l.clock.2:Nat)],?_,(M.snoc l v hv).am T⟩,λk e=>?_,h.dq,h.dw,h.NO⟩
  . rw[aP];refine O4 D (λk R S e=>zr (λx=>?_) rfl);subst x;rcases u _ e with e2|e2
    . exact A e2
    omega
  rcases u k e with e2|e2
  . exact⟨λx=>(h.dl k e2).1 ((r k).1 x),(h.dl k e2).2⟩
  exact⟨λx=>by have:=h.wi.kw.lt k ((r k).1 x);omega,by omega,by have:=h.wi.qi.ck.lt;omega⟩
 refine⟨U,⟨hF.os,hF.tape,hF.output,by omega,λk q G=>?_⟩,λk q=>?_⟩
 . exact s k q (λe=>G ((h.ct k).2 (ap (ao e)))) (λe=>G ((h.ct k).2 (ap (ap e))))
 rcases (U.ct k).1 q with e|e|e
 . exact ao ((h.ct k).2 (ao ((r k).1 e)))
 . exact ao ((h.ct k).2 (ap (ao e)))
 rcases u k e with e2|e2
 . exact ao ((h.ct k).2 (ap (ap e2)))
 exact ap (by omega)
end
section
variable {K A:Cd} {a:Int} {j:List Lt} {B N l m d f i z:Nat} {o:Obj} {c:Sc} {n r q:Xv} {W s w:Xw}
attribute [local go_sem ↓] Go.wp_at_zero Go.wp_at_succ
structure CX (N B i d f m l:Nat) (c:Sc) (n q:Xv) (w:Xw) (z:Nat) (o:Obj) (r:Xv) (K:Cd) (j:List Lt) (W:Xw):Prop where
 wl:WL N B i d f m l c n q r K j W
 ft:FT (CT d f) w W
 bx:W.heap[z]?=some o
 nz:¬CT d f W z
theorem CX.PX {e:Xv}{b:List Lt}(h:CX N B i d f m l c n q w z o r K j W)(k:WL N B i d f m l c n q e A b s)(g:FT (CT d f) W s):CX N B i d f m l c n q w z o e A b s :=
 ⟨k,h.ft.trans g,(g.fr.block _ (ze h.bx) h.nz).trans h.bx,g.not (ze h.bx) h.nz⟩
theorem CX.Om (h:CX N B i d f m l c n q w z o r K j W)(e:KW B i d A s)(b:FT (KT d) W s):CX N B i d f m l c n q w z o r A j s :=
 h.PX (h.wl.N6 e b).1 (h.wl.N6 e b).2
theorem CX.aq (h:CX N B i d f m l c n q w z o r K j W)(b:xB W s):CX N B i d f m l c n q w z o r K j s :=
 h.PX (h.wl.aq b) (FT.below b (h.wl.tk b))
theorem CX.add (h:CX N B i d f m l c n q w z o r K j W)(b:Nat)(x:Int)(u:K.row.length<=1000000) :
 xK 56 #[xP i,.int .u8 (b:Int),xI x] W (λe g=>e=.returned (.tuple #[])/\CX N B i d f m l c n q w z o r (K.add b x) j g):=by
 refine (O5 B i d K b x W h.wl.wi.kw u).mono ?_;rintro e g ⟨k,p,t⟩;exact⟨k,h.Om p t⟩
theorem CX.new (h:WL N B i d f m l c n q r K j w)(o:Obj):CX N B i d f m l c n q w w.heap.size o r K j (w.alloc o) :=
 ⟨h.aq (zq w o),FT.below (zq w o) (h.tk (zq w o)),zc w o,λe=>by have:=(h.lt _ (h.tk (zq w o) _ e)).2.1;omega⟩
theorem CX.am {g:Xv}{t:Cd}{b:List Lt}(h:CX N B i d f m l c n q w z o r K j W)(p:WL N B i d f m l c n q g t b w):bV N w W:=h.ft.am p.wi.qi.hN (λk e=>(p.lt k e).1)
theorem RY:∀u∈[xI a],u.oneCell'=true:=by simp[Value.oneCell']
theorem Tu {b c:Int}{p:Xp}:∀u∈[xI a,.pointer p,xI b,xI c],u.oneCell'=true:=by simp[Value.oneCell']
theorem VJ (t Z bs:Tm)(ar:t.ts=[Z,bs])(dc:Wf t)(v:Xv)(k:Nat×Nat)(K:Cd)(j:List Lt)(w:Xw)(hT:TT w N t v)(H:WL N B i d f m l c n q r K j w)(dw:K.row.length<=1000000)(hc:K.cells.length<=1000000)(dY:j.length<=1000000) :
 xK 197 #[xP i,xP f,v,hG k] w (λe Y=>e=.returned (.tuple #[])/\(∃aA,WL N B i d f m l c n q aA ((K.cell (MI Z)).add 3 K.cells.length) (j++[⟨K.cells.length,bs,k⟩]) Y)/\FT (CT d f) w Y):=by
 obtain⟨b,cB,cs,rfl,c0,a1,V,R,aV,cl⟩:=hT.ptr;obtain⟨x,cR,rfl⟩:=zB V;rw[ar] at R;obtain⟨cv,bL⟩:∃y,cs[0]?=some y:=⟨_,av (by rw[R];simp)⟩;obtain⟨cz,bY⟩:∃y,cs[1]?=some y:=⟨_,av (by rw[R];simp)⟩;obtain⟨g,rfl,U⟩:=nB V bL;obtain⟨g',c6,ab⟩:=nB V bY;cases c6;have bk:=aV 0 Z cv (by rw[ar];rfl) bL;have bl:=aV 1 bs cz (by rw[ar];rfl) bY;obtain⟨u0,_,_,rfl,_⟩:=bk.ptr;obtain⟨u1,_,_,rfl,_⟩:=bl.ptr;have bA:=cl g rfl;have ck:=dc.sub (u:=Z) (by rw[ar];simp);have cn:cs.length=2:=R;rw[cn] at a1;have bb:=za (CX.new H (.cells #[xI (k.1:Nat),xI (k.2:Nat)] 198));have da:=H.wi.qi.hN;obtain⟨i0,hi,a4,a5,a6⟩:=info_parts Tryz.Pz;obtain⟨c2,c1,bB,bC,bE⟩:=info_parts Tryz.Ue;have mx:K.cells.length+1<=maxLen:=by unfold maxLen;omega
 have a2:(K.cells.length+1)*8<=140737488355328:=by omega
 have b0:j.length+1<=maxLen:=by unfold maxLen;omega
 have bt:(j.length+1)*32<=140737488355328:=by omega
 obtain⟨cA,bg⟩:∃cA,(K.cell (MI Z)).add 3 K.cells.length=cA:=⟨_,rfl⟩;rw[bg];unfold hG;have cm:∃a0 Q,(w.alloc (.cells #[xI (k.1:Nat),xI (k.2:Nat)] 198)).cell? (xD i 0)=some (xP d)/\(w.alloc (.cells #[xI (k.1:Nat),xI (k.2:Nat)] 198)).cell? (xD d 3)=some (.slice a0 K.cells.length Q):=by obtain⟨c4,c5,rv,I⟩:=bb.o.wl.wi.kw;obtain⟨a0,Q,rfl⟩:=O6 I.hQ;exact⟨a0,Q,(zu I.wr).1,(zt I.aC).2.2.2.1⟩
 obtain⟨a0,Q,p0,m3⟩:=cm;go_enter func197,ntmps197;go_upto_region 2 with fail;refine zn (λW=>CX N B i d f m l c n q w w.heap.size (.cells #[xI (k.1:Nat),xI (k.2:Nat)] 198) r K j W) bb.o ?_;intro W di;have b1:=za di;go_cut [] (λwx=>aa (CX N B i d f m l c n q w w.heap.size (.cells #[xI (k.1:Nat),xI (k.2:Nat)] 198) r (K.cell (MI Z)) j wx));case first =>
  obtain⟨c4,c5,rv,I⟩:=b1.o.wl.wi.kw;obtain⟨a0,Q,rfl⟩:=O6 I.hQ;obtain⟨p0,ea,eb⟩:=zu I.wr;obtain⟨m0,m1,m2,m3,m4,m5,dM,co⟩:=zt I.aC;have hO:=b1.o.am H;obtain⟨t0,t1,t2,t3,t4,t5,dP,tz⟩:=zt ((hO b c0).trans a1);have U:=(World.cell?_of_block (w:=w) (a:=(xD g 0)) (hO g bA)).trans U;have be:=za (QL Z ck (xP u0) W.drew (bk.am hO |>.am (λ_ _=>rfl)));have du:=I.MC;have dz:=I.MF;have cg:=I.hB;have ch:=b1.o.wl.wi.NN;have dk:¬b=d:=by omega
  have dp:¬g=d:=by omega
  have dH:=I.dk;generalize MI Z=ca at *;refine wp_region_noPanic ?_;refine wp_region_held_drew (S:=(λY=>Y.cell? (xD i 0)=some (xP d)/\Y.cell? (xD b 5)=some (xS g 2 cR)/\Y.cell? (xD g 0)=some (xP u0))) (by kernel_rfl) ?_ (λh=>?_)
  . (try dsimp only);(first|(with_reducible (refine⟨?_,?_,?_⟩ <;> repeat (first|assumption|refine zg ?_|refine zj _ ?_|refine zk (by omega) ?_)))|go_keep)
  refine aR 0 rfl (v:=?v1) (ao ⟨by rfl,?h1⟩) ?_;case h1=>(intro w p;(try dsimp only at p);go_simp;try with_reducible rfl)
  try simp only[Act.put,aD]
  refine aR 1 rfl (v:=?v2) (ao ⟨by rfl,?h2⟩) ?_;case h2=>(intro w p;(try dsimp only at p);go_simp;try with_reducible rfl)
  try simp only[Act.put,aD]
  refine aR 2 rfl (v:=?v3) (ao ⟨by rfl,?h3⟩) ?_;case h3=>(intro w p;(try dsimp only at p);go_simp;try with_reducible rfl)
  try simp only[Act.put,aD]
  refine aR 3 rfl (v:=?v4) (ao ⟨by rfl,?h4⟩) ?_;case h4=>(intro w p;(try dsimp only at p);go_simp;try with_reducible rfl)
  try simp only[Act.put,aD]
  refine aR 4 rfl (v:=?v5) (ao ⟨by rfl,?h5⟩) ?_;case h5=>(intro w p;(try dsimp only at p);go_simp;try with_reducible rfl)
  try simp only[Act.put,aD]
  refine aR 5 rfl (v:=?v6) (ao ⟨by rfl,?h6⟩) ?_;case h6=>(intro w p;(try dsimp only at p);go_simp;try with_reducible rfl)
  try simp only[Act.put,aD]
  refine aR 6 rfl (v:=?v7) (ao ⟨by rfl,?h7⟩) ?_;case h7=>(intro w p;(try dsimp only at p);go_simp;try with_reducible rfl)
  try simp only[Act.put,aD]
  refine aR 7 rfl (v:=?v8) (ao ⟨by rfl,?h8⟩) ?_;case h8=>(intro w p;(try dsimp only at p);go_simp;try with_reducible rfl)
  try simp only[Act.put,aD]
  refine aR 8 rfl (v:=?v9) (ao ⟨by rfl,?h9⟩) ?_;case h9=>(intro w p;(try dsimp only at p);go_simp;try with_reducible rfl)
  try simp only[Act.put,aD]
  refine aR 9 rfl (v:=?v10) (ao ⟨by rfl,?h10⟩) ?_;case h10=>(intro w p;(try dsimp only at p);go_simp;try with_reducible rfl)
  try simp only[Act.put,aD]
  refine aR 11 rfl (v:=?v11) (ao ⟨by rfl,?h11⟩) ?_;case h11=>(intro w p;(try dsimp only at p);go_simp;try with_reducible rfl)
  try simp only[Act.put,aD]
  refine aR 12 rfl (v:=?v12) (ao ⟨by rfl,?h12⟩) ?_;case h12=>(intro w p;(try dsimp only at p);go_simp;try with_reducible rfl)
  try simp only[Act.put,aD]
  refine aR 13 rfl (v:=?v13) (ao ⟨by rfl,?h13⟩) ?_;case h13=>(intro w p;(try dsimp only at p);go_simp;try with_reducible rfl)
  try simp only[Act.put,aD]
  refine aR 14 rfl (v:=?v14) (ao ⟨by rfl,?h14⟩) ?_;case h14=>(intro w p;(try dsimp only at p);go_simp;try with_reducible rfl)
  try simp only[Act.put,aD]
  refine aR 15 rfl (v:=?v15) (ao ⟨by rfl,?h15⟩) ?_;case h15=>(intro w p;(try dsimp only at p);go_simp;try with_reducible rfl)
  try simp only[Act.put,aD]
  refine aR 16 rfl (v:=?v16) (ao ⟨by rfl,?h16⟩) ?_;case h16=>(intro w p;(try dsimp only at p);go_simp;try with_reducible rfl)
  try simp only[Act.put,aD]
  refine wpAnyH_ready (rs:=[10,17]) (by kernel_rfl) (by simp) ?_;refine AllReadyH.cons rfl (λF C=>?_) ?_;go_simp;refine C.out _ _ ?_ (λh9=>?_)
  . (try dsimp only);(first|(with_reducible (refine⟨?_,?_,?_⟩ <;> repeat (first|assumption|refine zg ?_|refine zj _ ?_|refine zk (by omega) ?_)))|go_keep)
  clear C F h;have h:=h9;try simp only[Act.put,aD]
  refine wpAnyH_ready (rs:=[17]) (by kernel_rfl) (by simp) ?_;refine AllReadyH.cons rfl (λF C=>?_) ?_;go_simp;first|go_at_K|(((go_at_call 196;refine be.o.mono ?_;rintro e w1 ⟨rfl,rfl⟩));first|go_at_K|go_wp2_with fail)
  refine C.out _ _ ?_ (λh9=>?_)
  . (try dsimp only);(first|(with_reducible (refine⟨?_,?_,?_⟩ <;> repeat (first|assumption|refine zg ?_|refine zj _ ?_|refine zk (by omega) ?_)))|go_keep)
  clear C F h;have h:=h9;try simp only[Act.put,aD]
  refine wpAnyH_ready (rs:=[18]) (by kernel_rfl) (by simp) ?_;refine AllReadyH.cons rfl (λF C=>?_) ?_;go_simp;refine C.out _ _ ?_ (λh9=>?_)
  . (try dsimp only);(first|(with_reducible (refine⟨?_,?_,?_⟩ <;> repeat (first|assumption|refine zg ?_|refine zj _ ?_|refine zk (by omega) ?_)))|go_keep)
  clear C F h;have h:=h9;try simp only[Act.put,aD]
  refine wpAnyH_ready (rs:=[19]) (by kernel_rfl) (by simp) ?_;refine AllReadyH.cons rfl (λF C=>?_) ?_
  ((refine zJ _ rfl (.tmp 27) (.tmp 35) 32 rfl B 2 i0 _ 1 8 underlying32 hi a4 a5 a6 rfl (by decide) (.slice a0 K.cells.length Q) K.cells.length (zK K.cells) rfl (zD I.hQ _) (xD W.heap.size 0) 1 1 [xI ca] rfl rfl (zN (zc W _) rfl) RY mx a2 (by simp;omega) ?_;intro v' w9 E G L;obtain⟨g9,aL,rfl,bx⟩:=zM E (by omega);have D:=(Fr.gi G).cQ;have O:=(D.block d (by simp;omega) (λH=>by have:=(I.hQ.lt _ H).1;omega)).trans ((Below.heap_alloc _ _ _ (by omega)).trans I.aC);have X:=(D.block i (by simp;omega) (λH=>by have:=(I.hQ.lt _ H).1;omega)).trans ((Below.heap_alloc _ _ _ (by omega)).trans I.wr);obtain⟨cE,cK,cO⟩:=zu X;obtain⟨q0,b2,q2,q3,q4,q5,qf,b3⟩:=zt O;have d5:=(World.cell?_of_block (w:=W) (a:=(xD b 5)) ((D.block b (by simp;omega) (λH=>by have:=(I.hQ.lt _ H).1;omega)).trans (Below.heap_alloc _ _ _ (by omega)))).trans t5;have f0:=(World.cell?_of_block (w:=W) (a:=(xD g 0)) ((D.block g (by simp;omega) (λH=>by have:=(I.hQ.lt _ H).1;omega)).trans (Below.heap_alloc _ _ _ (by omega)))).trans U))
  refine C.out _ _ ?_ (λh9=>?_)
  . (try dsimp only);(first|(with_reducible (refine⟨?_,?_,?_⟩ <;> repeat (first|assumption|refine zg ?_|refine zj _ ?_|refine zk (by omega) ?_)))|go_keep)
  clear C F h;have h:=h9;try simp only[Act.put,aD]
  refine aR 20 rfl (v:=?v17) (ao ⟨by rfl,?h17⟩) ?_;case h17=>(intro w p;(try dsimp only at p);go_simp;try with_reducible rfl)
  try simp only[Act.put,aD]
  refine aR 21 rfl (v:=?v18) (ao ⟨by rfl,?h18⟩) ?_;case h18=>(intro w p;(try dsimp only at p);go_simp;try with_reducible rfl)
  try simp only[Act.put,aD]
  refine wpAnyH_ready (rs:=[22]) (by kernel_rfl) (by simp) ?_;refine AllReadyH.cons rfl (λF C=>?_) ?_;go_simp;refine C.out _ _ ?_ (λh9=>?_)
  . (try dsimp only);(first|(with_reducible (refine⟨?_,?_,?_⟩ <;> repeat (first|assumption|refine zg ?_|refine zj _ ?_|refine zk (by omega) ?_)))|go_keep)
  clear C F h;have h:=h9;try simp only[Act.put,aD]
  refine wpAnyH_done (by kernel_rfl) ?_ _;rotate_left;exact AllReadyH.nil;exact AllReadyH.nil;exact AllReadyH.nil;exact AllReadyH.nil;refine AllReadyH.cons rfl (λF C=>?_) ?_;go_simp;first|go_at_K|(((go_at_call 196;refine be.o.mono ?_;rintro e w1 ⟨rfl,rfl⟩));first|go_at_K|go_wp2_with fail)
  refine C.out _ _ ?_ (λh9=>?_)
  . (try dsimp only);(first|(with_reducible (refine⟨?_,?_,?_⟩ <;> repeat (first|assumption|refine zg ?_|refine zj _ ?_|refine zk (by omega) ?_)))|go_keep)
  clear C F h;have h:=h9;try simp only[Act.put,aD]
  refine wpAnyH_ready (rs:=[10,18]) (by kernel_rfl) (by simp) ?_;refine AllReadyH.cons rfl (λF C=>?_) ?_;go_simp;refine C.out _ _ ?_ (λh9=>?_)
  . (try dsimp only);(first|(with_reducible (refine⟨?_,?_,?_⟩ <;> repeat (first|assumption|refine zg ?_|refine zj _ ?_|refine zk (by omega) ?_)))|go_keep)
  clear C F h;have h:=h9;try simp only[Act.put,aD]
  refine wpAnyH_ready (rs:=[18]) (by kernel_rfl) (by simp) ?_;refine AllReadyH.cons rfl (λF C=>?_) ?_;go_simp;refine C.out _ _ ?_ (λh9=>?_)
  . (try dsimp only);(first|(with_reducible (refine⟨?_,?_,?_⟩ <;> repeat (first|assumption|refine zg ?_|refine zj _ ?_|refine zk (by omega) ?_)))|go_keep)
  clear C F h;have h:=h9;try simp only[Act.put,aD]
  refine wpAnyH_ready (rs:=[19]) (by kernel_rfl) (by simp) ?_;refine AllReadyH.cons rfl (λF C=>?_) ?_
  ((refine zJ _ rfl (.tmp 27) (.tmp 35) 32 rfl B 2 i0 _ 1 8 underlying32 hi a4 a5 a6 rfl (by decide) (.slice a0 K.cells.length Q) K.cells.length (zK K.cells) rfl (zD I.hQ _) (xD W.heap.size 0) 1 1 [xI ca] rfl rfl (zN (zc W _) rfl) RY mx a2 (by simp;omega) ?_;intro v' w9 E G L;obtain⟨g9,aL,rfl,bx⟩:=zM E (by omega);have D:=(Fr.gi G).cQ;have O:=(D.block d (by simp;omega) (λH=>by have:=(I.hQ.lt _ H).1;omega)).trans ((Below.heap_alloc _ _ _ (by omega)).trans I.aC);have X:=(D.block i (by simp;omega) (λH=>by have:=(I.hQ.lt _ H).1;omega)).trans ((Below.heap_alloc _ _ _ (by omega)).trans I.wr);obtain⟨cE,cK,cO⟩:=zu X;obtain⟨q0,b2,q2,q3,q4,q5,qf,b3⟩:=zt O;have d5:=(World.cell?_of_block (w:=W) (a:=(xD b 5)) ((D.block b (by simp;omega) (λH=>by have:=(I.hQ.lt _ H).1;omega)).trans (Below.heap_alloc _ _ _ (by omega)))).trans t5;have f0:=(World.cell?_of_block (w:=W) (a:=(xD g 0)) ((D.block g (by simp;omega) (λH=>by have:=(I.hQ.lt _ H).1;omega)).trans (Below.heap_alloc _ _ _ (by omega)))).trans U))
  refine C.out _ _ ?_ (λh9=>?_)
  . (try dsimp only);(first|(with_reducible (refine⟨?_,?_,?_⟩ <;> repeat (first|assumption|refine zg ?_|refine zj _ ?_|refine zk (by omega) ?_)))|go_keep)
  clear C F h;have h:=h9;try simp only[Act.put,aD]
  refine aR 20 rfl (v:=?v19) (ao ⟨by rfl,?h19⟩) ?_;case h19=>(intro w p;(try dsimp only at p);go_simp;try with_reducible rfl)
  try simp only[Act.put,aD]
  refine aR 21 rfl (v:=?v20) (ao ⟨by rfl,?h20⟩) ?_;case h20=>(intro w p;(try dsimp only at p);go_simp;try with_reducible rfl)
  try simp only[Act.put,aD]
  refine wpAnyH_ready (rs:=[22]) (by kernel_rfl) (by simp) ?_;refine AllReadyH.cons rfl (λF C=>?_) ?_;go_simp;refine C.out _ _ ?_ (λh9=>?_)
  . (try dsimp only);(first|(with_reducible (refine⟨?_,?_,?_⟩ <;> repeat (first|assumption|refine zg ?_|refine zj _ ?_|refine zk (by omega) ?_)))|go_keep)
  clear C F h;have h:=h9;try simp only[Act.put,aD]
  refine wpAnyH_done (by kernel_rfl) ?_ _;rotate_left;exact AllReadyH.nil;exact AllReadyH.nil;exact AllReadyH.nil;refine AllReadyH.cons rfl (λF C=>?_) ?_;go_simp;refine C.out _ _ ?_ (λh9=>?_)
  . (try dsimp only);(first|(with_reducible (refine⟨?_,?_,?_⟩ <;> repeat (first|assumption|refine zg ?_|refine zj _ ?_|refine zk (by omega) ?_)))|go_keep)
  clear C F h;have h:=h9;try simp only[Act.put,aD]
  refine wpAnyH_ready (rs:=[10]) (by kernel_rfl) (by simp) ?_;refine AllReadyH.cons rfl (λF C=>?_) ?_;go_simp;refine C.out _ _ ?_ (λh9=>?_)
  . (try dsimp only);(first|(with_reducible (refine⟨?_,?_,?_⟩ <;> repeat (first|assumption|refine zg ?_|refine zj _ ?_|refine zk (by omega) ?_)))|go_keep)
  clear C F h;have h:=h9;try simp only[Act.put,aD]
  refine wpAnyH_ready (rs:=[19]) (by kernel_rfl) (by simp) ?_;refine AllReadyH.cons rfl (λF C=>?_) ?_
  ((refine zJ _ rfl (.tmp 27) (.tmp 35) 32 rfl B 2 i0 _ 1 8 underlying32 hi a4 a5 a6 rfl (by decide) (.slice a0 K.cells.length Q) K.cells.length (zK K.cells) rfl (zD I.hQ _) (xD W.heap.size 0) 1 1 [xI ca] rfl rfl (zN (zc W _) rfl) RY mx a2 (by simp;omega) ?_;intro v' w9 E G L;obtain⟨g9,aL,rfl,bx⟩:=zM E (by omega);have D:=(Fr.gi G).cQ;have O:=(D.block d (by simp;omega) (λH=>by have:=(I.hQ.lt _ H).1;omega)).trans ((Below.heap_alloc _ _ _ (by omega)).trans I.aC);have X:=(D.block i (by simp;omega) (λH=>by have:=(I.hQ.lt _ H).1;omega)).trans ((Below.heap_alloc _ _ _ (by omega)).trans I.wr);obtain⟨cE,cK,cO⟩:=zu X;obtain⟨q0,b2,q2,q3,q4,q5,qf,b3⟩:=zt O;have d5:=(World.cell?_of_block (w:=W) (a:=(xD b 5)) ((D.block b (by simp;omega) (λH=>by have:=(I.hQ.lt _ H).1;omega)).trans (Below.heap_alloc _ _ _ (by omega)))).trans t5;have f0:=(World.cell?_of_block (w:=W) (a:=(xD g 0)) ((D.block g (by simp;omega) (λH=>by have:=(I.hQ.lt _ H).1;omega)).trans (Below.heap_alloc _ _ _ (by omega)))).trans U))
  refine C.out _ _ ?_ (λh9=>?_)
  . (try dsimp only);(first|(with_reducible (refine⟨?_,?_,?_⟩ <;> repeat (first|assumption|refine zg ?_|refine zj _ ?_|refine zk (by omega) ?_)))|go_keep)
  clear C F h;have h:=h9;try simp only[Act.put,aD]
  refine aR 20 rfl (v:=?v21) (ao ⟨by rfl,?h21⟩) ?_;case h21=>(intro w p;(try dsimp only at p);go_simp;try with_reducible rfl)
  try simp only[Act.put,aD]
  refine aR 21 rfl (v:=?v22) (ao ⟨by rfl,?h22⟩) ?_;case h22=>(intro w p;(try dsimp only at p);go_simp;try with_reducible rfl)
  try simp only[Act.put,aD]
  refine wpAnyH_ready (rs:=[22]) (by kernel_rfl) (by simp) ?_;refine AllReadyH.cons rfl (λF C=>?_) ?_;go_simp;refine C.out _ _ ?_ (λh9=>?_)
  . (try dsimp only);(first|(with_reducible (refine⟨?_,?_,?_⟩ <;> repeat (first|assumption|refine zg ?_|refine zj _ ?_|refine zk (by omega) ?_)))|go_keep)
  clear C F h;have h:=h9;try simp only[Act.put,aD]
  refine wpAnyH_done (by kernel_rfl) ?_ _;rotate_left;exact AllReadyH.nil;exact AllReadyH.nil;exact AllReadyH.nil;exact AllReadyH.nil;exact AllReadyH.nil;all_goals refine NoPanic.normal ?_
  all_goals go_wp2_with fail
  all_goals go_meet
  all_goals have bv:=I.Re D E (λk e=>(L k e).imp id (λH=>by have h':(W.alloc (.cells #[xI ca] 2)).heap.size<=k:=H;rw[au] at h';exact h'))
  all_goals exact b1.o.Om bv.1 bv.2
 case rest =>
  have J:aa (CX N B i d f m l c n q w w.heap.size (.cells #[xI (k.1:Nat),xI (k.2:Nat)] 198) r (K.cell (MI Z)) j wc):=hcut;go_upto_region 3 with fail;go_cut [] (λwx=>∃aA,aa (CX N B i d f m l c n q w w.heap.size (.cells #[xI (k.1:Nat),xI (k.2:Nat)] 198) aA (K.cell (MI Z)) (j++[⟨K.cells.length,bs,k⟩]) wx));case first =>
   obtain⟨xs,P,bq⟩:=J.o.wl.row;obtain⟨ct,a3,rfl⟩:=QM P;obtain⟨m0,m1,m2,m3,m4,dM,co⟩:=bz J.o.wl.wi.qi.aC;have hO:=J.o.am H;obtain⟨t0,t1,t2,t3,t4,t5,dP,tz⟩:=zt ((hO b c0).trans a1);have ab:=(World.cell?_of_block (w:=w) (a:=(xD g 1)) (hO g bA)).trans ab;obtain⟨z0,c3,ek,b4⟩:=zp J.o.bx;have bK:=J.o.nz;have bo:=za (bl.am hO);have cg:B<=wc.heap.size:=(by obtain⟨_,_,_,I⟩:=J.o.wl.wi.kw;exact I.hB);have c9:=J.o.wl.NO;have ch:=J.o.wl.wi.NN;have ds:=J.o.wl.wi.kw.kb;have M:∀T,(Value.slice ct j.length a3).ownBlock=some T->¬T=b/\¬T=g/\¬T=w.heap.size/\¬T=f:=λT e=>⟨λe'=>by have:=(P.lt T e).1;omega,λe'=>by have:=(P.lt T e).1;omega,λe'=>bK ((J.o.wl.ct _).2 (ap (ap (e'▸e)))),(J.o.wl.dl T e).2.1⟩;have dL:¬w.heap.size=f:=λe=>bK ((J.o.wl.ct _).2 (ap (ao e)));have dl:¬b=f:=(by omega);have dq:¬g=f:=(by omega);refine wp_region_noPanic ?_;refine wp_region_held_drew (S:=(λY=>Y.cell? (xD b 5)=some (xS g 2 cR)/\Y.cell? (xD g 1)=some (xP u1)/\Y.cell? (xD w.heap.size 0)=some (xI (k.1:Nat))/\Y.cell? (xD w.heap.size 1)=some (xI (k.2:Nat)))) (by kernel_rfl) ?_ (λh=>?_)
   . (try dsimp only);(first|(with_reducible (refine⟨?_,?_,?_,?_⟩ <;> repeat (first|assumption|refine zg ?_|refine zj _ ?_|refine zk (by omega) ?_)))|go_keep)
   refine aR 0 rfl (v:=?v23) (ao ⟨by rfl,?h23⟩) ?_;case h23=>(intro w p;(try dsimp only at p);go_simp;try with_reducible rfl)
   try simp only[Act.put,aD]
   refine aR 1 rfl (v:=?v24) (ao ⟨by rfl,?h24⟩) ?_;case h24=>(intro w p;(try dsimp only at p);go_simp;try with_reducible rfl)
   try simp only[Act.put,aD]
   refine aR 2 rfl (v:=?v25) (ao ⟨by rfl,?h25⟩) ?_;case h25=>(intro w p;(try dsimp only at p);go_simp;try with_reducible rfl)
   try simp only[Act.put,aD]
   refine aR 3 rfl (v:=?v26) (ao ⟨by rfl,?h26⟩) ?_;case h26=>(intro w p;(try dsimp only at p);go_simp;try with_reducible rfl)
   try simp only[Act.put,aD]
   refine aR 5 rfl (v:=?v27) (ao ⟨by rfl,?h27⟩) ?_;case h27=>(intro w p;(try dsimp only at p);go_simp;try with_reducible rfl)
   try simp only[Act.put,aD]
   refine aR 6 rfl (v:=?v28) (ao ⟨by rfl,?h28⟩) ?_;case h28=>(intro w p;(try dsimp only at p);go_simp;try with_reducible rfl)
   try simp only[Act.put,aD]
   refine aR 7 rfl (v:=?v29) (ao ⟨by rfl,?h29⟩) ?_;case h29=>(intro w p;(try dsimp only at p);go_simp;try with_reducible rfl)
   try simp only[Act.put,aD]
   refine aR 8 rfl (v:=?v30) (ao ⟨by rfl,?h30⟩) ?_;case h30=>(intro w p;(try dsimp only at p);go_simp;try with_reducible rfl)
   try simp only[Act.put,aD]
   refine aR 9 rfl (v:=?v31) (ao ⟨by rfl,?h31⟩) ?_;case h31=>(intro w p;(try dsimp only at p);go_simp;try with_reducible rfl)
   try simp only[Act.put,aD]
   refine aR 10 rfl (v:=?v32) (ao ⟨by rfl,?h32⟩) ?_;case h32=>(intro w p;(try dsimp only at p);go_simp;try with_reducible rfl)
   try simp only[Act.put,aD]
   refine aR 11 rfl (v:=?v33) (ao ⟨by rfl,?h33⟩) ?_;case h33=>(intro w p;(try dsimp only at p);go_simp;try with_reducible rfl)
   try simp only[Act.put,aD]
   refine aR 12 rfl (v:=?v34) (ao ⟨by rfl,?h34⟩) ?_;case h34=>(intro w p;(try dsimp only at p);go_simp;try with_reducible rfl)
   try simp only[Act.put,aD]
   refine aR 13 rfl (v:=?v35) (ao ⟨by rfl,?h35⟩) ?_;case h35=>(intro w p;(try dsimp only at p);go_simp;try with_reducible rfl)
   try simp only[Act.put,aD]
   refine wpAnyH_ready (rs:=[4,14]) (by kernel_rfl) (by simp) ?_;refine AllReadyH.cons rfl (λF C=>?_) ?_;go_simp;refine C.out _ _ ?_ (λh9=>?_)
   . (try dsimp only);(first|(with_reducible (refine⟨?_,?_,?_,?_⟩ <;> repeat (first|assumption|refine zg ?_|refine zj _ ?_|refine zk (by omega) ?_)))|go_keep)
   clear C F h;have h:=h9;try simp only[Act.put,aD]
   refine wpAnyH_ready (rs:=[14]) (by kernel_rfl) (by simp) ?_;refine AllReadyH.cons rfl (λF C=>?_) ?_;go_simp;refine C.out _ _ ?_ (λh9=>?_)
   . (try dsimp only);(first|(with_reducible (refine⟨?_,?_,?_,?_⟩ <;> repeat (first|assumption|refine zg ?_|refine zj _ ?_|refine zk (by omega) ?_)))|go_keep)
   clear C F h;have h:=h9;try simp only[Act.put,aD]
   refine wpAnyH_ready (rs:=[15]) (by kernel_rfl) (by simp) ?_;refine AllReadyH.cons rfl (λF C=>?_) ?_
   ((refine SL _ rfl (.tmp 43) (.tmp 53) 124 rfl B 206 c2 _ 4 32 underlying124 c1 bB bC bE rfl (by decide) (.slice ct j.length a3) j.length xs rfl (O4 P (λT _ a9 _=>Below.heap_alloc _ _ _ a9)) (xD wc.heap.size 0) 1 1 [xI (K.cells.length:Int),xP u1,xI (k.1:Nat),xI (k.2:Nat)] rfl rfl (zN (zc wc _) rfl) Tu b0 bt (by simp;omega) ?_;intro v' w9 E G L;obtain⟨dV,ce,rfl⟩:=QM E;have D:=(Fr.gi G).cQ;have O:=(D.block f (by simp;omega) (λH=>(M _ H).2.2.2 rfl)).trans ((Below.heap_alloc _ _ _ co).trans J.o.wl.wi.qi.aC);obtain⟨q0,b2,q2,q3,q4,qf,b3⟩:=bz O;have d5:=(World.cell?_of_block (w:=wc) (a:=(xD b 5)) ((D.block b (by simp;omega) (λH=>(M _ H).1 rfl)).trans (Below.heap_alloc _ _ _ tz))).trans t5;have f1:=(World.cell?_of_block (w:=wc) (a:=(xD g 1)) ((D.block g (by simp;omega) (λH=>(M _ H).2.1 rfl)).trans (Below.heap_alloc _ _ _ (by omega)))).trans ab;have cv:=(World.cell?_of_block (w:=wc) (a:=(xD w.heap.size 0)) ((D.block w.heap.size (by simp;omega) (λH=>(M _ H).2.2.1 rfl)).trans (Below.heap_alloc _ _ _ b4))).trans z0;have cz:=(World.cell?_of_block (w:=wc) (a:=(xD w.heap.size 1)) ((D.block w.heap.size (by simp;omega) (λH=>(M _ H).2.2.1 rfl)).trans (Below.heap_alloc _ _ _ b4))).trans c3))
   refine C.out _ _ ?_ (λh9=>?_)
   . (try dsimp only);(first|(with_reducible (refine⟨?_,?_,?_,?_⟩ <;> repeat (first|assumption|refine zg ?_|refine zj _ ?_|refine zk (by omega) ?_)))|go_keep)
   clear C F h;have h:=h9;try simp only[Act.put,aD]
   refine aR 16 rfl (v:=?v36) (ao ⟨by rfl,?h36⟩) ?_;case h36=>(intro w p;(try dsimp only at p);go_simp;try with_reducible rfl)
   try simp only[Act.put,aD]
   refine aR 17 rfl (v:=?v37) (ao ⟨by rfl,?h37⟩) ?_;case h37=>(intro w p;(try dsimp only at p);go_simp;try with_reducible rfl)
   try simp only[Act.put,aD]
   refine wpAnyH_ready (rs:=[18]) (by kernel_rfl) (by simp) ?_;refine AllReadyH.cons rfl (λF C=>?_) ?_;go_simp;refine C.out _ _ ?_ (λh9=>?_)
   . (try dsimp only);(first|(with_reducible (refine⟨?_,?_,?_,?_⟩ <;> repeat (first|assumption|refine zg ?_|refine zj _ ?_|refine zk (by omega) ?_)))|go_keep)
   clear C F h;have h:=h9;try simp only[Act.put,aD]
   refine wpAnyH_done (by kernel_rfl) ?_ _;rotate_left;exact AllReadyH.nil;exact AllReadyH.nil;exact AllReadyH.nil;refine AllReadyH.cons rfl (λF C=>?_) ?_;go_simp;refine C.out _ _ ?_ (λh9=>?_)
   . (try dsimp only);(first|(with_reducible (refine⟨?_,?_,?_,?_⟩ <;> repeat (first|assumption|refine zg ?_|refine zj _ ?_|refine zk (by omega) ?_)))|go_keep)
   clear C F h;have h:=h9;try simp only[Act.put,aD]
   refine wpAnyH_ready (rs:=[4]) (by kernel_rfl) (by simp) ?_;refine AllReadyH.cons rfl (λF C=>?_) ?_;go_simp;refine C.out _ _ ?_ (λh9=>?_)
   . (try dsimp only);(first|(with_reducible (refine⟨?_,?_,?_,?_⟩ <;> repeat (first|assumption|refine zg ?_|refine zj _ ?_|refine zk (by omega) ?_)))|go_keep)
   clear C F h;have h:=h9;try simp only[Act.put,aD]
   refine wpAnyH_ready (rs:=[15]) (by kernel_rfl) (by simp) ?_;refine AllReadyH.cons rfl (λF C=>?_) ?_
   ((refine SL _ rfl (.tmp 43) (.tmp 53) 124 rfl B 206 c2 _ 4 32 underlying124 c1 bB bC bE rfl (by decide) (.slice ct j.length a3) j.length xs rfl (O4 P (λT _ a9 _=>Below.heap_alloc _ _ _ a9)) (xD wc.heap.size 0) 1 1 [xI (K.cells.length:Int),xP u1,xI (k.1:Nat),xI (k.2:Nat)] rfl rfl (zN (zc wc _) rfl) Tu b0 bt (by simp;omega) ?_;intro v' w9 E G L;obtain⟨dV,ce,rfl⟩:=QM E;have D:=(Fr.gi G).cQ;have O:=(D.block f (by simp;omega) (λH=>(M _ H).2.2.2 rfl)).trans ((Below.heap_alloc _ _ _ co).trans J.o.wl.wi.qi.aC);obtain⟨q0,b2,q2,q3,q4,qf,b3⟩:=bz O;have d5:=(World.cell?_of_block (w:=wc) (a:=(xD b 5)) ((D.block b (by simp;omega) (λH=>(M _ H).1 rfl)).trans (Below.heap_alloc _ _ _ tz))).trans t5;have f1:=(World.cell?_of_block (w:=wc) (a:=(xD g 1)) ((D.block g (by simp;omega) (λH=>(M _ H).2.1 rfl)).trans (Below.heap_alloc _ _ _ (by omega)))).trans ab;have cv:=(World.cell?_of_block (w:=wc) (a:=(xD w.heap.size 0)) ((D.block w.heap.size (by simp;omega) (λH=>(M _ H).2.2.1 rfl)).trans (Below.heap_alloc _ _ _ b4))).trans z0;have cz:=(World.cell?_of_block (w:=wc) (a:=(xD w.heap.size 1)) ((D.block w.heap.size (by simp;omega) (λH=>(M _ H).2.2.1 rfl)).trans (Below.heap_alloc _ _ _ b4))).trans c3))
   refine C.out _ _ ?_ (λh9=>?_)
   . (try dsimp only);(first|(with_reducible (refine⟨?_,?_,?_,?_⟩ <;> repeat (first|assumption|refine zg ?_|refine zj _ ?_|refine zk (by omega) ?_)))|go_keep)
   clear C F h;have h:=h9;try simp only[Act.put,aD]
   refine aR 16 rfl (v:=?v38) (ao ⟨by rfl,?h38⟩) ?_;case h38=>(intro w p;(try dsimp only at p);go_simp;try with_reducible rfl)
   try simp only[Act.put,aD]
   refine aR 17 rfl (v:=?v39) (ao ⟨by rfl,?h39⟩) ?_;case h39=>(intro w p;(try dsimp only at p);go_simp;try with_reducible rfl)
   try simp only[Act.put,aD]
   refine wpAnyH_ready (rs:=[18]) (by kernel_rfl) (by simp) ?_;refine AllReadyH.cons rfl (λF C=>?_) ?_;go_simp;refine C.out _ _ ?_ (λh9=>?_)
   . (try dsimp only);(first|(with_reducible (refine⟨?_,?_,?_,?_⟩ <;> repeat (first|assumption|refine zg ?_|refine zj _ ?_|refine zk (by omega) ?_)))|go_keep)
   clear C F h;have h:=h9;try simp only[Act.put,aD]
   refine wpAnyH_done (by kernel_rfl) ?_ _;rotate_left;exact AllReadyH.nil;exact AllReadyH.nil;exact AllReadyH.nil;exact AllReadyH.nil;all_goals refine NoPanic.normal ?_
   all_goals go_wp2_with fail
   all_goals go_meet
   all_goals have bv:=J.o.wl.put ⟨K.cells.length,bs,k⟩ (xP u1) bo.o D xs bq E (λT e=>(L T e).imp id (λH=>by have h':(wc.alloc (.cells #[xI (K.cells.length:Int),xP u1,xI (k.1:Nat),xI (k.2:Nat)] 206)).heap.size<=T:=H;rw[au] at h';exact h'))
   all_goals exact⟨_,J.o.PX bv.1 bv.2⟩
  case rest => obtain⟨aA,cd⟩:=hcut;go_wp2_with (go_at_call 56;refine (cd.o.add 3 (K.cells.length:Int) dw).mono ?_;rintro e w3 ⟨rfl,bp⟩);go_end0;rw[<- bg];exact⟨rfl,⟨_,bp.wl⟩,bp.ft⟩
end
section
variable {a:List ay} {N:Nat}
attribute [local go_sem ↓] Go.wp_at_zero Go.wp_at_succ
theorem NL.ne {w:Xw}{e:Xv}{t:Xm}(h:NL w N a e t):NE w N a e:=by
 have p:=h.own;rcases h.own.2 with ⟨l,f⟩|⟨g,b,j,s,_,_,m,o,_⟩
 . exact⟨none,0,by rw[l,f],by omega,by omega,λc=>absurd (List.length_eq_zero_iff.1 f) c⟩
 subst s;refine⟨some (xD g 0),b,rfl,m,by unfold maxLen at o;omega,λ_=>⟨g,rfl,h.lo g rfl,λi n q=>?_⟩⟩;obtain⟨u,r,d⟩:=h.at' i n q;have:=p.cells (g:=g) rfl i u r;have k:((xD g 0):Addr).add i=⟨g,i,none⟩:=by cases i <;> simp[Addr.add]
 rw[k] at this;exact⟨u,this,d⟩
theorem G1 {H:Xv}(k:Nat)(n:ay)(w:Xw)(h:PT w N a H)(D:N<=w.heap.size)(A:a[k]?=some n) :
 xK 55 #[H,xI k] w (λe p=>∃x c j,e=.returned (.agg #[.slice x k c,xP j])/\br p N ⟨a.take k,n⟩ (.slice x k c) (xP j)/\xB w p):=by
 obtain⟨t,V,xs,rfl,L,E,q⟩:=h;have f:=(aB.1 A).1;have C:=q.ne;have X:=q.bO;obtain⟨x,c,rfl,J,M,m⟩:=q.ne;obtain⟨g,rfl,K,l⟩:=m (by intro e;rw[e] at f;simp at f);obtain⟨u,F,o⟩:=l k n A;have r:=za o;have I:=za (C.take f);obtain⟨j,aV,ar,U,rfl,B⟩:=o;obtain⟨G,ab,R⟩:=zu E;have Z:(k:Int)<=(c:Int):=by omega
 have Y:(0:Int)<=(k:Int):=by omega
 have i2:(k:Int)<(a.length:Int):=by omega
 have z:g<w.heap.size:=by omega
 clear C m l B q E A;go_enter func55,ntmps55;go_wp2_with fail;refine zn (λW=>W=w.alloc (.cells #[.slice none 0 0,.pointer none] 114 (0,0))/\True) ⟨rfl,trivial⟩ ?_;rintro W ⟨y,_⟩;have s:=za (y▸zq w (.cells #[.slice none 0 0,.pointer none] 114 (0,0)):xB w W);obtain⟨S,T,rf,aA⟩:=zp (y▸zc w (.cells #[.slice none 0 0,.pointer none] 114 (0,0)):W.heap[w.heap.size]?=_);have aL:=zd s.o G R;have s1:=zd s.o F z;have O:¬w.heap.size=t:=by omega
 have P:¬w.heap.size=g:=by omega
 have jK:¬t=w.heap.size:=by omega
 have Q:¬g=w.heap.size:=by omega
 clear y G F;go_region_held3 (λp=>p.cell? (xD t 0)=some (xS g a.length c)/\p.cell? (xD g k)=some (xP j)) (go_keep) (fail);go_wp2_with fail;have d:=zo (zC (i:=1) (zC (b:=w.heap.size) (i:=0) s.o (an _) (xS g k c)) (b:=w.heap.size) (an _) (xP j));refine bodyPost_ret (v:=.agg #[xS g k c,xP j]) (by simp[results,results55,go_sem,S,T]) rfl ⟨_,_,_,rfl,?_,d⟩;exact⟨I.o.am (zm d D),r.o.am (zm d D)⟩
end
end Go.Proofs.YtbicmofihhjgbaaGreatDoor
