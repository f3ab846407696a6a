/- Part 33 of the proof. -/
import Derived.Laws.OwnMore
import Derived.Test.YtmfkofhgdjechaaGreatDoorK27
set_option maxRecDepth 100000
set_option maxHeartbeats 8000000
namespace Go.Proofs.YtmfkofhgdjechaaGreatDoor
open Go.Proofs.Tryz
open Go.RowKit
section
variable {w:Xw}
attribute [local go_sem ↓] Go.wp_at_zero Go.wp_at_succ
theorem vD {t:Array Oper}{o:Oper}{a:Act}{K:Act->World->Prop}{Q:Exit->Act->World->Prop}{E:Prop}(z:o.guard=none)(s x:Operand)(C:o.op=.call { callee:=.builtin .append,args:=#[s,x],argTypes:=#[188,188] })
 (B I:Nat) (v H:Xv) (n m:Nat) (f:Xm) (i:Xn) (D:a.eval s=v) (b:w.ownsRow B 3 1 v n f) (F:a.eval x=H) (c:w.ownsRow I 3 1 H m (bK i)) (V:n+m<=100000) (O:B<=w.heap.size)
 (h:∀e d,d.ownsRow B 3 1 e (n+m) (f++bK i)->w.grownBy d v.ownBlock->K (a.put o.dst e) d):if Region.wanted o (yielded t a.tmps)=true then Oper.wp prog o a w K Q else E:=by
 obtain⟨G,A,p,q,r⟩:=info_parts Tryz.mT;rcases c.2 with ⟨l,L⟩|⟨g,k,J,l,_⟩
 . subst l L;have U:bK i=[]:=List.eq_nil_of_length_eq_zero (by have:=c.1;omega);have S:=run_append_owned_none (P:=prog) w B 188 o.type 3 G 1 underlying188 A v n f b;rw[ag (by simp[Region.wanted,z])];unfold Oper.wp execOp;simp only[C,resolve,invoke,builtin,Sem.run_bind,Sem.run_pure,Result.andThen_ok,List.map_toArray,List.map_cons,List.map_nil,D,F,S];exact h v w (by rw[U,List.append_nil];exact b) ⟨rfl,rfl,rfl,an _,λ_ _ _=>rfl⟩
 subst l;exact zJ w z s x 188 C B 3 G _ 1 8 underlying188 A p q r rfl (by decide) v n f D b (xD g 0) m k (bK i) F (by have:=c.1;omega) (λj u R=>c.cells (g:=g) rfl j u R) (λu T=>by obtain⟨y,_,rfl⟩:=List.mem_map.1 T;rfl) (by unfold maxLen;omega) (by omega) O (λe d M N _=>h e d M N)
theorem wv {b i:Nat}{v:Xv}{o:Xo}{W:Xw}(hF:w.grownBy W o)(d:w.cell? (xD b i)=some v)(c:b<w.heap.size)(f:¬o=some b):W.cell? (xD b i)=some v:=(World.cell?_of_block (w:=w) (a:=(xD b i)) (hF.block b c (λe=>f e.symm))).trans d
def oh (N:Nat)(c g b:Xv)(d:Nd)(x:Nat)(l:Xn):Prop :=
 ∀(w:Xw),kX w N c g b d->N<=w.heap.size->xK 252 #[.agg #[.string d.nm,xI d.a,c,g,b],xI x] w (λe f=>∃a,e=.returned a/\f.ownsRow w.heap.size 3 1 a l.length (bK l)/\xB w f)
theorem w2 {ls:Nat->List Nat}:∀{n m:Nat},m<=n->((List.range m).flatMap ls).length<=((List.range n).flatMap ls).length:=by
 intro n m h;induction h with
 | refl=>exact an _
 | step h a=>refine aJ a ?_;rw[List.range_succ,List.flatMap_append,aP];omega
theorem Fj {N:Nat}{vv xv qv:Xv}{d:Nd}(x:Nat)(e:Ex)(he:d.az[x]?=some e)(l:Xn)(i0:l.length<=100000)(ck:aa (jD d (oh N vv xv qv d) e l)):oh N vv xv qv d x l:=by
 intro w T hN;have A:=za T;obtain⟨i6,b2,rfl,g9,c4⟩:=T.xs;obtain⟨b3,b4,rfl,c3,_⟩:=T.vs;obtain⟨bE,bL,rfl,i1,_⟩:=T.qs;obtain⟨ak,i5,rfl,iR,⟨h6,h7,h8,hw,io,ip⟩,g4⟩:=c4 x e he;obtain⟨c9,a0,rfl,c2,o⟩:=g4;have hg:=(aB.1 he).1;obtain⟨X,hT⟩:∃X,d.az.length=X:=⟨_,rfl⟩;obtain⟨V,hR⟩:∃V,d.ab.length=V:=⟨_,rfl⟩;obtain⟨E,hQ⟩:∃E,d.eqs.length=E:=⟨_,rfl⟩;obtain⟨q,S⟩:∃q,e.ah.length=q:=⟨_,rfl⟩;have z:=za S;have Z:=za (show gm w N (.slice c9 e.ah.length a0) e.ah from ⟨c9,a0,rfl,c2,o⟩);rw[S] at hw Z c2;rw[hT] at hg g9 A ck ⊢;rw[hR] at A ck c3 ⊢;rw[hQ] at A ck ⊢;have c0:ak<w.heap.size:=by omega
 clear T c4 he o hT hR hQ S;go_enter func252,ntmps252;go_upto_block 0 with fail;obtain⟨t,D⟩:∃t,(w.alloc (.cells #[.string d.nm,xI d.a,.slice b3 V b4,xS ak X b2,.slice bE E bL] 103)).alloc (.cells #[.string e.op,xI e.a,xI e.nm,.slice c9 q a0,.string e.s,xI e.n] 190)=t:=⟨_,rfl⟩;have a:aa (xB w t):=D▸cT _ _ _;have M:aa (t.heap[w.heap.size]?=some (nf d (.slice b3 V b4) (xS ak X b2) (.slice bE E bL))):=by unfold aa;rw[<- D];exact (Below.heap_alloc _ _ _ (by rw[au];omega)).trans (zc w _)
 have O:aa (t.heap[w.heap.size+1]?=some (.cells #[.string e.op,xI e.a,xI e.nm,.slice c9 q a0,.string e.s,xI e.n] 190 (0,0))):=by unfold aa;rw[<- D];have:=zc (w.alloc (nf d (.slice b3 V b4) (xS ak X b2) (.slice bE E bL))) (.cells #[.string e.op,xI e.a,xI e.nm,.slice c9 q a0,.string e.s,xI e.n] 190);rw[au] at this;exact this
 have ar:t.heap.size<=w.heap.size+1+1:=by rw[<- D,au,au];omega
 rw[D];clear D h6 h7 h8 hw io ip c0;obtain⟨gc,s1,s2,ge,gl,go,gs⟩:=bz M.o;obtain⟨er,es,ev,ex,fd,fq,fx,fV⟩:=zt O.o;have cm:=ck.o;obtain⟨l',g6⟩:∃l',l'=l:=⟨_,rfl⟩;rw[<- g6] at cm;have K:=za g6;clear ck g6;cases cm with
 | k2 s y W l1 Y =>
   have ca:=za Y;obtain⟨dn,ds,R,_,o⟩:=Z.o;injection R with eb em eq
   subst eb eq;obtain⟨C,rfl,cv,a2⟩:=o 0 y W;have al:C<t.heap.size:=(by have:=a.o.size;omega);have h3:=cA a.o (show C<w.heap.size by omega) a2;have c1:0<q:=(by have:=(aB.1 W).1;have:=z.o;omega);clear o W em Y a2;go_upto_region 5 with fail
   go_region_held3 (λp=>p.cell? (xD w.heap.size 0)=some (.string d.nm)/\p.cell? (xD w.heap.size 1)=some (xI d.a)/\p.cell? (xD w.heap.size 2)=some (.slice b3 V b4)/\p.cell? (xD w.heap.size 3)=some (xS ak X b2)/\p.cell? (xD w.heap.size 4)=some (.slice bE E bL)/\p.cell? (xD (w.heap.size+1) 3)=some (xS C q a0)/\p.cell? (xD C 0)=some (xI y))
    (first|(with_reducible (refine⟨?_,?_,?_,?_,?_,?_,?_⟩ <;> repeat (first|assumption|refine zg ?_|refine zj _ ?_|refine zk (by omega) ?_|refine zd b.o ?_ (by first|omega|(rw[au];omega)))))|go_keep)
    (first
      | (go_at_call 252;refine (ca.o t.drew (A.o.aH (zo (a.o.mono hN))) (show N<=t.heap.size by have:=a.o.size;omega)).mono ?_;rintro e' b1 ⟨hv,rfl,U,g⟩;obtain⟨fr,fv,rfl⟩:=kE U;have h5:=za U;have b:=za (zw g);clear U g))
   go_wp2_with fail;go_ret;exact⟨_,rfl,zR (by rw[<- K.o];exact h5.o) a.o.size,a.o.trans (b.o.mono a.o.size)⟩
 | nm s f h0 k Y =>
   have ca:=za Y;have a3:=za (qM (xv:=(xS ak X b2)) (qv:=.slice bE E bL) d.nm e.s d.a t (A.o.aH (a.o.mono hN)).vs (aJ hN a.o.size) ⟨_,_,_,rfl⟩ ⟨_,_,_,rfl⟩);rw[h0] at a3;unfold bC at a3;obtain⟨i3,h2,c1,g2,g3⟩:=info_parts Tryz.mT;have g0:=za h2;clear h0 Y h2;rcases s with h|h|h|h
   all_goals
    go_upto_region 11 with (first
     | (at_builtin;revert b;intro b;refine o4 _ rfl (.tmp 28) (.tmp 33) 188 rfl (w.heap.size+1+1) 3 i3 _ 1 8 underlying188 g0.o c1 g2 g3 rfl (by decide) (.slice none 0 0) 0 [] rfl (World.ownsRow_nil _ _ _ _) (xD b1.heap.size 0) 1 1 [xI (f:Nat)] rfl rfl (zN (zc b1 _) rfl) (λu i2=>by rw[cu.1 i2];rfl) (by unfold maxLen;omega) (by omega) (by simp;omega) ?_;intro v9 h4 h9 cs _;obtain⟨it,cn,rfl,_⟩:=zM h9 (by omega);have g1:=za h9;have gt:=za cs;clear h9 cs)
     | (go_at_call 169;refine a3.o.mono ?_;rintro e' b1 ⟨rfl,g⟩;have b:=za g;have c5:=g.size;clear g))
    have H:aa (xB t h4):=(b.o.alloc b.o.size _).trans ((Fr.gi gt.o).below (by rw[au];omega) (λj e=>by cases e));have L:aa (h4.ownsRow (w.heap.size+1+1) 3 1 (xS it 1 cn) 1 (bK [f])):=g1;have b0:t.heap.size<=w.heap.size+1+1:=ar;clear gc s1 s2 ge gl go gs er es ev ex fd fq fx fV;have bx:=b0;go_wp2_with fail;go_loopg [6,7] (q+1) (λj v i wr=>∃(r n:Nat) (F:Xp) (G:Nat),r+j=q+1/\r<=q/\v=.slice F n G/\i=xI r/\aa (([f]++(List.range r).flatMap k).length=n)/\aa (xB t wr)/\aa (wr.ownsRow (w.heap.size+1+1) 3 1 (.slice F n G) n (bK ([f]++(List.range r).flatMap k))));case atStart=>exact⟨0,1,_,_,by omega,aE _,rfl,rfl,rfl,H,by unfold aa;rw[List.range_zero,List.flatMap_nil,List.append_nil];exact L⟩
    case round =>
     obtain⟨r,n,F,G,g8,Y,rfl,rfl,bl,c,HOr⟩:=hrel;clear H L;obtain⟨gc,s1,s2,ge,gl,go,gs⟩:=bz ((c.o.block _ (ze M.o)).trans M.o);obtain⟨er,es,ev,ex,fd,fq,fx,fV⟩:=zt ((c.o.block _ (ze O.o)).trans O.o);have bt:=c.o.size;by_cases g7:r<q
     . obtain⟨y,W⟩:∃y,e.ah[r]?=some y:=⟨_,av (by have:=z.o;omega)⟩;have bk:=za (ca.o r y W);obtain⟨dn,ds,R,_,o⟩:=Z.o;injection R with eb em eq
       subst eb eq;obtain⟨C,rfl,cv,a2⟩:=o r y W;have h3:=cA (a.o.trans (c.o.mono a.o.size)) (show C<w.heap.size by omega) a2;have al:C<wr.heap.size:=(by omega);have a4:aa (n+(k r).length<=100000):=(by unfold aa;have h1:([f]++(List.range (r+1)).flatMap k).length<=l.length:=(by rw[<- K.o,aP,aP,z.o];have:=w2 (ls:=k) (n:=q) (m:=r+1) (by omega);omega);have P:=bl.o;rw[List.range_succ,List.flatMap_append,<- bw,aP,P] at h1;simp at h1;omega);have I:aa ([f]++(List.range (r+1)).flatMap k=([f]++(List.range r).flatMap k)++k r):=(by unfold aa;rw[List.range_succ,List.flatMap_append,<- bw];simp);have a5:=za (A.o.aH ((a.o.mono hN).trans (c.o.mono (by have:=a.o.size;omega))));clear o W em a2;go_upto_region 14 with fail
       go_region_held3 (λp=>p.cell? (xD w.heap.size 0)=some (.string d.nm)/\p.cell? (xD w.heap.size 1)=some (xI d.a)/\p.cell? (xD w.heap.size 2)=some (.slice b3 V b4)/\p.cell? (xD w.heap.size 3)=some (xS ak X b2)/\p.cell? (xD w.heap.size 4)=some (.slice bE E bL)/\p.cell? (xD (w.heap.size+1) 3)=some (xS C q a0)/\p.cell? (xD C r)=some (xI y))
        (first|(with_reducible (refine⟨?_,?_,?_,?_,?_,?_,?_⟩ <;> repeat (first|assumption|refine zg ?_|refine zj _ ?_|refine zk (by omega) ?_|refine wv J.o ?_ (by omega) (λe=>by have:=(B.o.lt _ e).1;omega)|refine zd b.o ?_ (by first|omega|(rw[au];omega)))))|go_keep)
        (first
          | (refine vD rfl (.tmp 42) (.tmp 49) rfl (w.heap.size+1+1) wr.heap.size (.slice F n G) (.slice fr (k r).length fv) n (k r).length _ (k r) rfl B.o rfl a9.o a4.o (by omega) ?_;intro v' i4 P Q;have J:=za Q;obtain⟨hm,hu,rfl⟩:=kE P;have be:=za P;clear P Q)
          | (go_at_call 252;refine (bk.o wr.drew (a5.o.aH (zo (Below.refl _ _))) (show N<=wr.heap.size by omega)).mono ?_;rintro e' b1 ⟨hv,rfl,U,g⟩;obtain⟨fr,fv,rfl⟩:=kE U;have a9:=za U;have b:=za (zw g);have B:aa (b1.ownsRow (w.heap.size+1+1) 3 1 (.slice F n G) n (bK ([f]++(List.range r).flatMap k))):=zi HOr.o (λj _ g5 _=>g.block j g5);have c5:=b.o.size;clear U g))
       go_wp2_with fail;go_roundg (gk-1);(try (case measure=>omega))
       have bp:∀j,(Value.slice F n G).ownBlock=some j->w.heap.size+1+1<=j:=λj e=>(B.o.lt j e).1;refine⟨r+1,n+(k r).length,hm,hu,by omega,by omega,rfl,by go_num,?_,?_,?_⟩
       . unfold aa;rw[I.o,aP,bl.o]
       . exact (c.o.trans (b.o.mono bt)).trans ((Fr.gi J.o).below (by omega) (λj e=>aJ bx (bp j e)))
       unfold aa;rw[I.o];unfold bK at *;rw[List.map_append];exact be.o
     have bs:r=q:=(by omega);subst bs;go_wp2_with fail;go_ret;exact⟨_,rfl,by rw[<- K.o,z.o,bl.o];exact zR HOr.o (by omega),a.o.trans (c.o.mono a.o.size)⟩
 | hK s k Y =>
   have i7:=s [102,98,121] (by decide);have i8:=s [118,97,114] (by decide);have i9:=s [119,104,101,110] (by decide);have kd:=s [119,104,101,110,111,116] (by decide);have kw:=s [109,101,114,103,101] (by decide);have ca:=za Y;clear s Y;go_upto_region 11 with fail;have H:aa (xB t t):=Below.refl _ _;have L:aa (t.ownsRow (w.heap.size+1+1) 3 1 (.slice none 0 0) 0 (bK [])):=World.ownsRow_nil _ _ _ _;have b0:t.heap.size<=w.heap.size+1+1:=ar;clear gc s1 s2 ge gl go gs er es ev ex fd fq fx fV;have bx:=b0;go_wp2_with fail;go_loopg [6,7] (q+1) (λj v i wr=>∃(r n:Nat) (F:Xp) (G:Nat),r+j=q+1/\r<=q/\v=.slice F n G/\i=xI r/\aa (([]++(List.range r).flatMap k).length=n)/\aa (xB t wr)/\aa (wr.ownsRow (w.heap.size+1+1) 3 1 (.slice F n G) n (bK ([]++(List.range r).flatMap k))));case atStart=>exact⟨0,0,_,_,by omega,aE _,rfl,rfl,rfl,H,by unfold aa;rw[List.range_zero,List.flatMap_nil,List.append_nil];exact L⟩
   case round =>
    obtain⟨r,n,F,G,g8,Y,rfl,rfl,bl,c,HOr⟩:=hrel;clear H L;obtain⟨gc,s1,s2,ge,gl,go,gs⟩:=bz ((c.o.block _ (ze M.o)).trans M.o);obtain⟨er,es,ev,ex,fd,fq,fx,fV⟩:=zt ((c.o.block _ (ze O.o)).trans O.o);have bt:=c.o.size;by_cases g7:r<q
    . obtain⟨y,W⟩:∃y,e.ah[r]?=some y:=⟨_,av (by have:=z.o;omega)⟩;have bk:=za (ca.o r y W);obtain⟨dn,ds,R,_,o⟩:=Z.o;injection R with eb em eq
      subst eb eq;obtain⟨C,rfl,cv,a2⟩:=o r y W;have h3:=cA (a.o.trans (c.o.mono a.o.size)) (show C<w.heap.size by omega) a2;have al:C<wr.heap.size:=(by omega);have a4:aa (n+(k r).length<=100000):=(by unfold aa;have h1:([]++(List.range (r+1)).flatMap k).length<=l.length:=(by rw[<- K.o,aP,aP,z.o];have:=w2 (ls:=k) (n:=q) (m:=r+1) (by omega);omega);have P:=bl.o;rw[List.range_succ,List.flatMap_append,<- bw,aP,P] at h1;simp at h1;omega);have I:aa ([]++(List.range (r+1)).flatMap k=([]++(List.range r).flatMap k)++k r):=(by unfold aa;rw[List.range_succ,List.flatMap_append,<- bw];simp);have a5:=za (A.o.aH ((a.o.mono hN).trans (c.o.mono (by have:=a.o.size;omega))));clear o W em a2;go_upto_region 14 with fail
      go_region_held3 (λp=>p.cell? (xD w.heap.size 0)=some (.string d.nm)/\p.cell? (xD w.heap.size 1)=some (xI d.a)/\p.cell? (xD w.heap.size 2)=some (.slice b3 V b4)/\p.cell? (xD w.heap.size 3)=some (xS ak X b2)/\p.cell? (xD w.heap.size 4)=some (.slice bE E bL)/\p.cell? (xD (w.heap.size+1) 3)=some (xS C q a0)/\p.cell? (xD C r)=some (xI y))
       (first|(with_reducible (refine⟨?_,?_,?_,?_,?_,?_,?_⟩ <;> repeat (first|assumption|refine zg ?_|refine zj _ ?_|refine zk (by omega) ?_|refine wv J.o ?_ (by omega) (λe=>by have:=(B.o.lt _ e).1;omega)|refine zd b.o ?_ (by first|omega|(rw[au];omega)))))|go_keep)
       (first
         | (refine vD rfl (.tmp 42) (.tmp 49) rfl (w.heap.size+1+1) wr.heap.size (.slice F n G) (.slice fr (k r).length fv) n (k r).length _ (k r) rfl B.o rfl a9.o a4.o (by omega) ?_;intro v' i4 P Q;have J:=za Q;obtain⟨hm,hu,rfl⟩:=kE P;have be:=za P;clear P Q)
         | (go_at_call 252;refine (bk.o wr.drew (a5.o.aH (zo (Below.refl _ _))) (show N<=wr.heap.size by omega)).mono ?_;rintro e' b1 ⟨hv,rfl,U,g⟩;obtain⟨fr,fv,rfl⟩:=kE U;have a9:=za U;have b:=za (zw g);have B:aa (b1.ownsRow (w.heap.size+1+1) 3 1 (.slice F n G) n (bK ([]++(List.range r).flatMap k))):=zi HOr.o (λj _ g5 _=>g.block j g5);have c5:=b.o.size;clear U g))
      go_wp2_with fail;go_roundg (gk-1);(try (case measure=>omega))
      have bp:∀j,(Value.slice F n G).ownBlock=some j->w.heap.size+1+1<=j:=λj e=>(B.o.lt j e).1;refine⟨r+1,n+(k r).length,hm,hu,by omega,by omega,rfl,by go_num,?_,?_,?_⟩
      . unfold aa;rw[I.o,aP,bl.o]
      . exact (c.o.trans (b.o.mono bt)).trans ((Fr.gi J.o).below (by omega) (λj e=>aJ bx (bp j e)))
      unfold aa;rw[I.o];unfold bK at *;rw[List.map_append];exact be.o
    have bs:r=q:=(by omega);subst bs;go_wp2_with fail;go_ret;exact⟨_,rfl,by rw[<- K.o,z.o,bl.o];exact zR HOr.o (by omega),a.o.trans (c.o.mono a.o.size)⟩
end
end Go.Proofs.YtmfkofhgdjechaaGreatDoor
