/- Part 33 of the proof. -/
import Derived.Laws.OwnMore
import Derived.Test.YtmfkofhgdjechaaGreatDoorK27
set_option maxRecDepth 100000
set_option maxHeartbeats 8000000
namespace Go.Proofs.YtmfkofhgdjechaaGreatDoor
open Go.Proofs.Tryz
open Go.RowKit
section
variable {w:Xw}
attribute [local go_sem ↓] Go.wp_at_zero Go.wp_at_succ
theorem vD {t:Array Oper}{o:Oper}{a:Act}{K:Act->World->Prop}{Q:Exit->Act->World->Prop}{E:Prop}(z:o.guard=none)(s x:Operand)(C:o.op=.call { callee:=.builtin .append,args:=#[s,x],argTypes:=#[188,188] })
 (B I:Nat) (v H:Xv) (n m:Nat) (f:Xm) (i:Xn) (D:a.eval s=v) (b:w.ownsRow B 3 1 v n f) (F:a.eval x=H) (c:w.ownsRow I 3 1 H m (bK i)) (V:n+m<=100000) (O:B<=w.heap.size)
 (h:∀e d,d.ownsRow B 3 1 e (n+m) (f++bK i)->w.grownBy d v.ownBlock->K (a.put o.dst e) d):if Region.wanted o (yielded t a.tmps)=true then Oper.wp prog o a w K Q else E:=by
 obtain⟨G,A,p,q,r⟩:=info_parts Tryz.mT;rcases c.2 with ⟨l,L⟩|⟨g,k,J,l,_⟩
 . subst l L;have U:bK i=[]:=List.eq_nil_of_length_eq_zero (by have:=c.1;omega);have S:=run_append_owned_none (P:=prog) w B 188 o.type 3 G 1 underlying188 A v n f b;rw[ag (by simp[Region.wanted,z])];unfold Oper.wp execOp;simp only[C,resolve,invoke,builtin,Sem.run_bind,Sem.run_pure,Result.andThen_ok,List.map_toArray,List.map_cons,List.map_nil,D,F,S];exact h v w (by rw[U,List.append_nil];exact b) ⟨rfl,rfl,rfl,an _,λ_ _ _=>rfl⟩
 subst l;exact zJ w z s x 188 C B 3 G _ 1 8 underlying188 A p q r rfl (by decide) v n f D b (xD g 0) m k (bK i) F (by have:=c.1;omega) (λj u R=>c.cells (g:=g) rfl j u R) (λu T=>by obtain⟨y,_,rfl⟩:=List.mem_map.1 T;rfl) (by unfold maxLen;omega) (by omega) O (λe d M N _=>h e d M N)
theorem wv {b i:Nat}{v:Xv}{o:Xo}{W:Xw}(hF:w.grownBy W o)(d:w.cell? (xD b i)=some v)(c:b<w.heap.size)(f:¬o=some b):W.cell? (xD b i)=some v:=(World.cell?_of_block (w:=w) (a:=(xD b i)) (hF.block b c (λe=>f e.symm))).trans d
def oh (N:Nat)(c g b:Xv)(d:Nd)(x:Nat)(l:Xn):Prop :=
 ∀(w:Xw),kX w N c g b d->N<=w.heap.size->xK 252 #[.agg #[.string d.nm,xI d.a,c,g,b],xI x] w (λe f=>∃a,e=.returned a/\f.ownsRow w.heap.size 3 1 a l.length (bK l)/\xB w f)
theorem w2 {ls:Nat->List Nat}:∀{n m:Nat},m<=n->((List.range m).flatMap ls).length<=((List.range n).flatMap ls).length:=by
 intro n m h;induction h with
 | refl=>exact an _
 | ad h a=>refine aJ a ?_;rw[List.range_succ,List.flatMap_append,aP];omega
theorem Fj {N:Nat}{vv xv qv:Xv}{d:Nd}(x:Nat)(e:Ex)(he:d.az[x]?=some e)(l:Xn)(i2:l.length<=100000)(cm:aa (jD d (oh N vv xv qv d) e l)):oh N vv xv qv d x l:=by
 intro w T hN;have A:=za T;obtain⟨i8,b3,rfl,hm,c5⟩:=T.xs;obtain⟨b4,ca,rfl,c4,_⟩:=T.vs;obtain⟨bL,b0,rfl,i3,_⟩:=T.qs;obtain⟨al,i7,rfl,i1,⟨h8,io,ip,hR,it,iR⟩,g6⟩:=c5 x e he;obtain⟨dn,a2,rfl,c3,o⟩:=g6;have hu:=(aB.1 he).1;obtain⟨X,h2⟩:∃X,d.az.length=X:=⟨_,rfl⟩;obtain⟨V,h0⟩:∃V,d.ab.length=V:=⟨_,rfl⟩;obtain⟨E,hT⟩:∃E,d.eqs.length=E:=⟨_,rfl⟩;obtain⟨q,S⟩:∃q,e.ah.length=q:=⟨_,rfl⟩;have z:=za S;have Z:=za (show gm w N (.slice dn e.ah.length a2) e.ah from ⟨dn,a2,rfl,c3,o⟩);rw[S] at hR Z c3;rw[h2] at hu hm A cm ⊢;rw[h0] at A cm c4 ⊢;rw[hT] at A cm ⊢;have c1:al<w.heap.size:=by omega
 clear T c5 he o h2 h0 hT S;go_enter func252,ntmps252;go_upto_block 0 with fail;obtain⟨t,D⟩:∃t,(w.alloc (.cells #[.string d.nm,xI d.a,.slice b4 V ca,xS al X b3,.slice bL E b0] 103)).alloc (.cells #[.string e.op,xI e.a,xI e.nm,.slice dn q a2,.string e.s,xI e.n] 190)=t:=⟨_,rfl⟩;have a:aa (xB w t):=D▸cT _ _ _;have M:aa (t.heap[w.heap.size]?=some (nf d (.slice b4 V ca) (xS al X b3) (.slice bL E b0))):=by unfold aa;rw[<- D];exact (Below.heap_alloc _ _ _ (by rw[au];omega)).trans (zc w _)
 have O:aa (t.heap[w.heap.size+1]?=some (.cells #[.string e.op,xI e.a,xI e.nm,.slice dn q a2,.string e.s,xI e.n] 190 (0,0))):=by unfold aa;rw[<- D];have:=zc (w.alloc (nf d (.slice b4 V ca) (xS al X b3) (.slice bL E b0))) (.cells #[.string e.op,xI e.a,xI e.nm,.slice dn q a2,.string e.s,xI e.n] 190);rw[au] at this;exact this
 have a0:t.heap.size<=w.heap.size+1+1:=by rw[<- D,au,au];omega
 rw[D];clear D h8 io ip hR it iR c1;obtain⟨gl,s1,s2,go,gs,gt,g0⟩:=bz M.o;obtain⟨ev,ex,fd,fq,fr,fv,gc,ge⟩:=zt O.o;have cn:=cm.o;obtain⟨l',g8⟩:∃l',l'=l:=⟨_,rfl⟩;rw[<- g8] at cn;have K:=za g8;clear cm g8;cases cn with
 | k2 s y W l1 Y =>
   have ck:=za Y;obtain⟨ds,eb,R,_,o⟩:=Z.o;injection R with eq er es
   subst eq es;obtain⟨C,rfl,c0,a3⟩:=o 0 y W;have ar:C<t.heap.size:=(by have:=a.o.size;omega);have h5:=cA a.o (show C<w.heap.size by omega) a3;have c2:0<q:=(by have:=(aB.1 W).1;have:=z.o;omega);clear o W er Y a3;go_upto_region 5 with fail
   go_region_held3 (λp=>p.cell? (xD w.heap.size 0)=some (.string d.nm)/\p.cell? (xD w.heap.size 1)=some (xI d.a)/\p.cell? (xD w.heap.size 2)=some (.slice b4 V ca)/\p.cell? (xD w.heap.size 3)=some (xS al X b3)/\p.cell? (xD w.heap.size 4)=some (.slice bL E b0)/\p.cell? (xD (w.heap.size+1) 3)=some (xS C q a2)/\p.cell? (xD C 0)=some (xI y))
    (first|(with_reducible (refine⟨?_,?_,?_,?_,?_,?_,?_⟩ <;> repeat (first|assumption|refine zg ?_|refine zj _ ?_|refine zk (by omega) ?_|refine zd b.o ?_ (by first|omega|(rw[au];omega)))))|go_keep)
    (first
      | (go_at_call 252;refine (ck.o t.drew (A.o.aH (zo (a.o.mono hN))) (show N<=t.heap.size by have:=a.o.size;omega)).mono ?_;rintro e' b2 ⟨hQ,rfl,U,g⟩;obtain⟨fx,fV,rfl⟩:=kE U;have h7:=za U;have b:=za (zw g);clear U g))
   go_wp2_with fail;go_ret;exact⟨_,rfl,zR (by rw[<- K.o];exact h7.o) a.o.size,a.o.trans (b.o.mono a.o.size)⟩
 | nm s f h3 k Y =>
   have ck:=za Y;have a4:=za (qM (xv:=(xS al X b3)) (qv:=.slice bL E b0) d.nm e.s d.a t (A.o.aH (a.o.mono hN)).vs (aJ hN a.o.size) ⟨_,_,_,rfl⟩ ⟨_,_,_,rfl⟩);rw[h3] at a4;unfold bC at a4;obtain⟨i5,h4,c2,g4,g5⟩:=info_parts Tryz.mT;have g2:=za h4;clear h3 Y h4;rcases s with h|h|h|h
   all_goals
    go_upto_region 11 with (first
     | (ak;revert b;intro b;refine o4 _ rfl (.tmp 28) (.tmp 33) 188 rfl (w.heap.size+1+1) 3 i5 _ 1 8 underlying188 g2.o c2 g4 g5 rfl (by decide) (.slice em 0 0) 0 [] rfl (World.ownsRow_nil _ _ _ _) (xD b2.heap.size 0) 1 1 [xI (f:Nat)] rfl rfl (zN (zc b2 _) rfl) (λu i4=>by rw[cu.1 i4];rfl) (by unfold maxLen;omega) (by omega) (by simp;omega) ?_;intro v9 h6 h9 cv _;obtain⟨i0,cs,rfl,_⟩:=zM h9 (by omega);have g3:=za h9;have g1:=za cv;clear h9 cv)
     | (go_at_call 169;refine a4.o.mono ?_;rintro e' b2 ⟨rfl,g⟩;have b:=za g;have c9:=g.size;clear g))
    have H:aa (xB t h6):=(b.o.alloc b.o.size _).trans ((Fr.gi g1.o).below (by rw[au];omega) (λj e=>by cases e));have L:aa (h6.ownsRow (w.heap.size+1+1) 3 1 (xS i0 1 cs) 1 (bK [f])):=g3;have b1:t.heap.size<=w.heap.size+1+1:=a0;clear gl s1 s2 go gs gt g0 ev ex fd fq fr fv gc ge;have bE:=b1;go_wp2_with fail;go_loopg [6,7] (q+1) (λj v i wr=>∃(r n:Nat) (F:Xp) (G:Nat),r+j=q+1/\r<=q/\v=.slice F n G/\i=xI r/\aa (([f]++(List.range r).flatMap k).length=n)/\aa (xB t wr)/\aa (wr.ownsRow (w.heap.size+1+1) 3 1 (.slice F n G) n (bK ([f]++(List.range r).flatMap k))));case atStart=>exact⟨0,1,_,_,by omega,aE _,rfl,rfl,rfl,H,by unfold aa;rw[List.range_zero,List.flatMap_nil,List.append_nil];exact L⟩
    case round =>
     obtain⟨r,n,F,G,hg,Y,rfl,rfl,bp,c,HOr⟩:=hrel;clear H L;obtain⟨gl,s1,s2,go,gs,gt,g0⟩:=bz ((c.o.block _ (ze M.o)).trans M.o);obtain⟨ev,ex,fd,fq,fr,fv,gc,ge⟩:=zt ((c.o.block _ (ze O.o)).trans O.o);have bx:=c.o.size;by_cases g9:r<q
     . obtain⟨y,W⟩:∃y,e.ah[r]?=some y:=⟨_,av (by have:=z.o;omega)⟩;have bl:=za (ck.o r y W);obtain⟨ds,eb,R,_,o⟩:=Z.o;injection R with eq er es
       subst eq es;obtain⟨C,rfl,c0,a3⟩:=o r y W;have h5:=cA (a.o.trans (c.o.mono a.o.size)) (show C<w.heap.size by omega) a3;have ar:C<wr.heap.size:=(by omega);have a5:aa (n+(k r).length<=100000):=(by unfold aa;have h1:([f]++(List.range (r+1)).flatMap k).length<=l.length:=(by rw[<- K.o,aP,aP,z.o];have:=w2 (ls:=k) (n:=q) (m:=r+1) (by omega);omega);have P:=bp.o;rw[List.range_succ,List.flatMap_append,<- bw,aP,P] at h1;simp at h1;omega);have I:aa ([f]++(List.range (r+1)).flatMap k=([f]++(List.range r).flatMap k)++k r):=(by unfold aa;rw[List.range_succ,List.flatMap_append,<- bw];simp);have a9:=za (A.o.aH ((a.o.mono hN).trans (c.o.mono (by have:=a.o.size;omega))));clear o W er a3;go_upto_region 14 with fail
       go_region_held3 (λp=>p.cell? (xD w.heap.size 0)=some (.string d.nm)/\p.cell? (xD w.heap.size 1)=some (xI d.a)/\p.cell? (xD w.heap.size 2)=some (.slice b4 V ca)/\p.cell? (xD w.heap.size 3)=some (xS al X b3)/\p.cell? (xD w.heap.size 4)=some (.slice bL E b0)/\p.cell? (xD (w.heap.size+1) 3)=some (xS C q a2)/\p.cell? (xD C r)=some (xI y))
        (first|(with_reducible (refine⟨?_,?_,?_,?_,?_,?_,?_⟩ <;> repeat (first|assumption|refine zg ?_|refine zj _ ?_|refine zk (by omega) ?_|refine wv J.o ?_ (by omega) (λe=>by have:=(B.o.lt _ e).1;omega)|refine zd b.o ?_ (by first|omega|(rw[au];omega)))))|go_keep)
        (first
          | (refine vD rfl (.tmp 42) (.tmp 49) rfl (w.heap.size+1+1) wr.heap.size (.slice F n G) (.slice fx (k r).length fV) n (k r).length _ (k r) rfl B.o rfl be.o a5.o (by omega) ?_;intro v' i6 P Q;have J:=za Q;obtain⟨hv,hw,rfl⟩:=kE P;have bk:=za P;clear P Q)
          | (go_at_call 252;refine (bl.o wr.drew (a9.o.aH (zo (Below.refl _ _))) (show N<=wr.heap.size by omega)).mono ?_;rintro e' b2 ⟨hQ,rfl,U,g⟩;obtain⟨fx,fV,rfl⟩:=kE U;have be:=za U;have b:=za (zw g);have B:aa (b2.ownsRow (w.heap.size+1+1) 3 1 (.slice F n G) n (bK ([f]++(List.range r).flatMap k))):=zi HOr.o (λj _ g7 _=>g.block j g7);have c9:=b.o.size;clear U g))
       go_wp2_with fail;go_roundg (gk-1);(try (case measure=>omega))
       have bs:∀j,(Value.slice F n G).ownBlock=some j->w.heap.size+1+1<=j:=λj e=>(B.o.lt j e).1;refine⟨r+1,n+(k r).length,hv,hw,by omega,by omega,rfl,by go_num,?_,?_,?_⟩
       . unfold aa;rw[I.o,aP,bp.o]
       . exact (c.o.trans (b.o.mono bx)).trans ((Fr.gi J.o).below (by omega) (λj e=>aJ bE (bs j e)))
       unfold aa;rw[I.o];unfold bK at *;rw[List.map_append];exact bk.o
     have bt:r=q:=(by omega);subst bt;go_wp2_with fail;go_ret;exact⟨_,rfl,by rw[<- K.o,z.o,bp.o];exact zR HOr.o (by omega),a.o.trans (c.o.mono a.o.size)⟩
 | hK s k Y =>
   have i9:=s [102,98,121] (by decide);have kd:=s [118,97,114] (by decide);have kw:=s [119,104,101,110] (by decide);have lb:=s [119,104,101,110,111,116] (by decide);have le:=s [109,101,114,103,101] (by decide);have ck:=za Y;clear s Y;go_upto_region 11 with fail;have H:aa (xB t t):=Below.refl _ _;have L:aa (t.ownsRow (w.heap.size+1+1) 3 1 (.slice em 0 0) 0 (bK [])):=World.ownsRow_nil _ _ _ _;have b1:t.heap.size<=w.heap.size+1+1:=a0;clear gl s1 s2 go gs gt g0 ev ex fd fq fr fv gc ge;have bE:=b1;go_wp2_with fail;go_loopg [6,7] (q+1) (λj v i wr=>∃(r n:Nat) (F:Xp) (G:Nat),r+j=q+1/\r<=q/\v=.slice F n G/\i=xI r/\aa (([]++(List.range r).flatMap k).length=n)/\aa (xB t wr)/\aa (wr.ownsRow (w.heap.size+1+1) 3 1 (.slice F n G) n (bK ([]++(List.range r).flatMap k))));case atStart=>exact⟨0,0,_,_,by omega,aE _,rfl,rfl,rfl,H,by unfold aa;rw[List.range_zero,List.flatMap_nil,List.append_nil];exact L⟩
   case round =>
    obtain⟨r,n,F,G,hg,Y,rfl,rfl,bp,c,HOr⟩:=hrel;clear H L;obtain⟨gl,s1,s2,go,gs,gt,g0⟩:=bz ((c.o.block _ (ze M.o)).trans M.o);obtain⟨ev,ex,fd,fq,fr,fv,gc,ge⟩:=zt ((c.o.block _ (ze O.o)).trans O.o);have bx:=c.o.size;by_cases g9:r<q
    . obtain⟨y,W⟩:∃y,e.ah[r]?=some y:=⟨_,av (by have:=z.o;omega)⟩;have bl:=za (ck.o r y W);obtain⟨ds,eb,R,_,o⟩:=Z.o;injection R with eq er es
      subst eq es;obtain⟨C,rfl,c0,a3⟩:=o r y W;have h5:=cA (a.o.trans (c.o.mono a.o.size)) (show C<w.heap.size by omega) a3;have ar:C<wr.heap.size:=(by omega);have a5:aa (n+(k r).length<=100000):=(by unfold aa;have h1:([]++(List.range (r+1)).flatMap k).length<=l.length:=(by rw[<- K.o,aP,aP,z.o];have:=w2 (ls:=k) (n:=q) (m:=r+1) (by omega);omega);have P:=bp.o;rw[List.range_succ,List.flatMap_append,<- bw,aP,P] at h1;simp at h1;omega);have I:aa ([]++(List.range (r+1)).flatMap k=([]++(List.range r).flatMap k)++k r):=(by unfold aa;rw[List.range_succ,List.flatMap_append,<- bw];simp);have a9:=za (A.o.aH ((a.o.mono hN).trans (c.o.mono (by have:=a.o.size;omega))));clear o W er a3;go_upto_region 14 with fail
      go_region_held3 (λp=>p.cell? (xD w.heap.size 0)=some (.string d.nm)/\p.cell? (xD w.heap.size 1)=some (xI d.a)/\p.cell? (xD w.heap.size 2)=some (.slice b4 V ca)/\p.cell? (xD w.heap.size 3)=some (xS al X b3)/\p.cell? (xD w.heap.size 4)=some (.slice bL E b0)/\p.cell? (xD (w.heap.size+1) 3)=some (xS C q a2)/\p.cell? (xD C r)=some (xI y))
       (first|(with_reducible (refine⟨?_,?_,?_,?_,?_,?_,?_⟩ <;> repeat (first|assumption|refine zg ?_|refine zj _ ?_|refine zk (by omega) ?_|refine wv J.o ?_ (by omega) (λe=>by have:=(B.o.lt _ e).1;omega)|refine zd b.o ?_ (by first|omega|(rw[au];omega)))))|go_keep)
       (first
         | (refine vD rfl (.tmp 42) (.tmp 49) rfl (w.heap.size+1+1) wr.heap.size (.slice F n G) (.slice fx (k r).length fV) n (k r).length _ (k r) rfl B.o rfl be.o a5.o (by omega) ?_;intro v' i6 P Q;have J:=za Q;obtain⟨hv,hw,rfl⟩:=kE P;have bk:=za P;clear P Q)
         | (go_at_call 252;refine (bl.o wr.drew (a9.o.aH (zo (Below.refl _ _))) (show N<=wr.heap.size by omega)).mono ?_;rintro e' b2 ⟨hQ,rfl,U,g⟩;obtain⟨fx,fV,rfl⟩:=kE U;have be:=za U;have b:=za (zw g);have B:aa (b2.ownsRow (w.heap.size+1+1) 3 1 (.slice F n G) n (bK ([]++(List.range r).flatMap k))):=zi HOr.o (λj _ g7 _=>g.block j g7);have c9:=b.o.size;clear U g))
      go_wp2_with fail;go_roundg (gk-1);(try (case measure=>omega))
      have bs:∀j,(Value.slice F n G).ownBlock=some j->w.heap.size+1+1<=j:=λj e=>(B.o.lt j e).1;refine⟨r+1,n+(k r).length,hv,hw,by omega,by omega,rfl,by go_num,?_,?_,?_⟩
      . unfold aa;rw[I.o,aP,bp.o]
      . exact (c.o.trans (b.o.mono bx)).trans ((Fr.gi J.o).below (by omega) (λj e=>aJ bE (bs j e)))
      unfold aa;rw[I.o];unfold bK at *;rw[List.map_append];exact bk.o
    have bt:r=q:=(by omega);subst bt;go_wp2_with fail;go_ret;exact⟨_,rfl,by rw[<- K.o,z.o,bp.o];exact zR HOr.o (by omega),a.o.trans (c.o.mono a.o.size)⟩
end
end Go.Proofs.YtmfkofhgdjechaaGreatDoor
