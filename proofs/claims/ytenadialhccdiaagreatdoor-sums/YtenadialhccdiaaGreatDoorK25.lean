/- Part 26. -/
import Derived.Test.YtenadialhccdiaaGreatDoorK24
set_option maxRecDepth 100000
set_option maxHeartbeats 8000000
namespace Go.Proofs.YtenadialhccdiaaGreatDoor
open Go.Proofs.Tryz
section
open Go.RowKit Go.Shelf
variable {N S:Nat} {k:Nat×Nat} {t:Tm}
theorem zTA:∀(l:List (Nat×Int)) (h:Nat),(∀i∈l,∃m:Nat,i=(2,(m:Int))/\m<S)->Pc S N (h+l.length) h l
 | [],h,_=>Pc.nil
 | i::l,h,hl=>by obtain⟨m,rfl,hm⟩:=hl i (zMS ..);exact Pc.app (R:=[(2,(m:Int))]) (Pc.store hm) (zTA l h (λj hj=>hl j (zMX _ hj)))
theorem zT2 {S N:Nat}:∀(l:List (Nat×Int)) (h:Nat),(∀i∈l,∃m:Nat,i=(1,(m:Int))/\m<S)->Pc S N h (h+l.length) l
 | [],h,_=>Pc.nil
 | i::l,h,hl=>by obtain⟨m,rfl,hm⟩:=hl i (zMS ..);have:=zT2 (S:=S) (N:=N) l (h+1) (λj hj=>hl j (zMX _ hj));rw[show h+1+l.length=h+(l.length+1) by omega] at this;exact Pc.app (R:=[(1,(m:Int))]) (Pc.load hm) this
theorem zTx:∀(l:List (Nat×Int)),(∀i∈l,i.1≠0)->zTl l<=2*l.length
 | [],_=>zMK 0
 | i::l,h=>by have h1:=zTo i.1 i.2 (h i (zMS ..));have h2:=zTx l (λj hj=>h j (zMX _ hj));have:zTl (i::l)=zTl [i]+zTl l:=zTm [i] l;rw[this,zMR];have h1':zTl [i]<=2:=h1;omega
def CkV (c:Sc)(k:Nat×Nat):Prop:=k.2=0∨k.1<=c.nd.vars.length
theorem zTJ (c:Sc)(i:Nat):CkV c (c.of i):=by
 unfold CkV Sc.of;cases c.nd.vars[i]? with
 | none=>exact .inl rfl
 | some v =>
   show (c.own v).2=0∨(c.own v).1<=c.nd.vars.length;unfold Sc.own;split
   . exact .inl rfl
   exact .inr (zmN c v.ck)
theorem zU6 (c:Sc)(k:Nat×Nat):CkV c (c.up k):=by
 unfold Sc.up;split
 . exact zTJ c _
 exact .inl rfl
theorem zUC {c:Sc}{i:Nat}(h:CkV c k):CkV c (c.operand t i k):=by
 unfold Sc.operand;split
 . exact zTJ c _
 split
 . exact .inr (zmN c t.s)
 exact h
theorem zTZ (c:Sc)(base:Nat):∀(f:Nat) (k:Nat×Nat),CkV c k->zTl (whM c base f k)<=2+4*f/\∀S N h,base+c.nd.vars.length+1<=S->Pc S N h (h+1) (whM c base f k)
 | 0,k,_=>⟨zTo 1 _ (by decide),λS N h hS=>Pc.load (by omega)⟩
 | f+1,k,hk=>by
   rw[whM];split
   . exact⟨zMO (zTo 1 _ (by decide)) (by omega),λS N h hS=>Pc.load (by omega)⟩
   rename_i h2
   obtain⟨i1,i2⟩:=zTZ c base f (c.up k) (zU6 c k);have hk1:k.1<=c.nd.vars.length:=hk.resolve_left h2;have b1:=zTo 1 ((base+k.1:Nat):Int) (by decide);have e:whM c base f (c.up k)++(1,((base+k.1:Nat):Int))::((if k.2=2 then [(8,0)] else [])++[(9,0)])=whM c base f (c.up k)++([(1,((base+k.1:Nat):Int))]++((if k.2=2 then [(8,0)] else [])++[(9,0)])):=rfl;rw[e];refine⟨?_,λS N h hS=>(i2 S N h hS).app (Pc.app (Pc.load (by omega)) ?_)⟩
   . rw[zTm,zTm,zTm];have b2:zTl (if k.2=2 then [((8:Nat),(0:Int))] else [])<=1:=(by split <;> decide);have b3:zTl [((9:Nat),(0:Int))]<=1:=(by decide);omega
   have p9:Pc S N (h+1+1) (h+1) [(9,0)]:=Pc.oper (h:=h) (a:=2) rfl;split
   . exact (Pc.oper (h:=h+1) (a:=1) rfl).app p9
   exact p9
theorem zT6:∀t:Tm,nmB t=true->I64 (zav t)
 | .mk k a s nm n ts,h=>by
   rw[nmB,Bool.and_eq_true,decide_eq_true_eq] at h;rw[zav];unfold I64;split
   . omega
   split
   . unfold wrap64;omega
   split <;> omega
theorem zUw:∀ts:List Tm,nmL ts=true->I64 (zhD ts)
 | [],_=>by rw[zhD];unfold I64;omega
 | t::l,h=>by rw[nmL,Bool.and_eq_true] at h;rw[zhD];exact zT6 t h.1
def cz (m:List (ByteArray×Nat))(t:Tm):Nat:=((zaV za5 t).map (za9 m)).sum
def czL (m:List (ByteArray×Nat))(ts:List Tm):Nat:=((zdk za5 ts).map (za9 m)).sum
theorem zUM (m:List (ByteArray×Nat))(k a:Nat)(s:Xb)(nm n:Nat)(ts:List Tm):cz m (.mk k a s nm n ts)=za9 m (.mk k a s nm n ts)+czL m ts:=by unfold cz czL;rw[zaV,zM2 (show za5 (.mk k a s nm n ts)=true from rfl),List.map_cons,List.sum_cons]
theorem zTw (m:List (ByteArray×Nat))(t:Tm)(ts:List Tm):czL m (t::ts)=cz m t+czL m ts:=by unfold cz czL;rw[zdk,List.map_append,List.sum_append]
section
variable (c:Sc) (m:List (ByteArray×Nat)) (BD:Sc->Nat->Prop)
inductive Gt:Tm->Nat->Prop
 | mk (k a:Nat) (s:Xb) (nm n:Nat) (ts:List Tm) (o:Nat) (ar:arB k ts.length=true) (nn:nmB (.mk k a s nm n ts)=true)
    (cl:k=4->∃d,c.called s=some d/\d.nd.ins=ts.length/\d.nd.outs=o/\d.nd.ins+d.nd.outs<=d.nd.vars.length/\d.nd.vars.length<=16/\BD d (zbi s m)) (o1:k≠4->o=1) (hr:∀u∈ts,Gt u 1):Gt (.mk k a s nm n ts) o
structure zUP (l:Lt):Prop where
 gt:Gt c m BD l.next 1
 ck:CkV c l.clock
def pwL:List Lt->Nat
 | []=>0
 | l::r=>9*vz l.next+13600*cz m l.next+90+pwL r
def pcL:List Lt->Nat
 | []=>0
 | l::r=>cz m l.next+pcL r
theorem zTu:∀(a b:List Lt),pwL m (a++b)=pwL m a+pwL m b
 | [],b=>by rw[List.nil_append];show _=0+_;omega
 | l::a,b=>by rw[List.cons_append,pwL,pwL,zTu a b];omega
theorem zTv:∀(a b:List Lt),pcL m (a++b)=pcL m a+pcL m b
 | [],b=>by rw[List.nil_append];show _=0+_;omega
 | l::a,b=>by rw[List.cons_append,pcL,pcL,zTv a b];omega
end
structure VOk (c:Sc) (m:List (ByteArray×Nat)) (BD:Sc->Nat->Prop) (lo hi o pw pc:Nat) (s s':Cd×List Lt):Prop where
 ex:∃new w n,s'.2=s.2++new/\Ly s.1 s'.1 lo hi 0 o w n/\w+pwL m new<=pw/\n+pcL m new<=pc/\∀x∈new,zUP c m BD x/\x.cell<s'.1.cells.length
def zTB (bod:Sc->Nat->Cd->Cd)(b hi:Nat)(d:Sc)(md:Nat):Prop:=∀K,Ly K (bod d b K) 0 hi 1 0 (13300+13600*md) md/\b+d.nd.vars.length+1<=(bod d b K).slots
section
variable {bod:Sc->Nat->Cd->Cd} {c:Sc} {base fu hi:Nat} {m:List (ByteArray×Nat)}
theorem zU9 {k n:Nat}(h:arB k n=true):k<24:=by
 unfold arB at h
 repeat' split at h
 all_goals first|omega|cases h
theorem zVb {d:Sc}{K:Cd}(hfu:fu<=18)(hc:c.called t.s=some d)(hi':d.nd.ins=t.ts.length)(hio:d.nd.ins+d.nd.outs<=d.nd.vars.length)(h16:d.nd.vars.length<=16)(hk:CkV c k){md:Nat}(hb:zTB bod (base+c.nd.vars.length+1) hi d md) :
 Ly K (zeb bod c base fu K t k) (base+c.nd.vars.length+1) hi t.ts.length d.nd.outs (13440+13600*md) md:=by
 unfold zeb;rw[hc];simp only;obtain⟨b,hbe⟩:∃b,b=base+c.nd.vars.length+1:=⟨_,rfl⟩;rw[<- hbe] at hb ⊢;obtain⟨st,hst⟩:∃st,(List.range t.ts.length).reverse.map (λi=>((2:Nat),((b+i:Nat):Int)))=st:=⟨_,rfl⟩;obtain⟨ld,hld⟩:∃ld,(List.range d.nd.outs).map (λi=>((1:Nat),((b+(d.nd.ins+i):Nat):Int)))=ld:=⟨_,rfl⟩;rw[hst,hld];have ls:st.length=t.ts.length:=by rw[<- hst];simp
 have ll:ld.length=d.nd.outs:=by rw[<- hld];simp
 obtain⟨w1,w2⟩:=zTZ c base fu k hk;obtain⟨y1,y2⟩:=hb ((K.adds st).adds (whM c base fu k));obtain⟨K2,hK2⟩:∃K2,bod d b ((K.adds st).adds (whM c base fu k))=K2:=⟨_,rfl⟩;rw[hK2] at y1 y2 ⊢;have m1:∀S,b+d.nd.vars.length+1<=S->∀i∈st,∃n:Nat,i=(2,(n:Int))/\n<S:=λS hS i hi=>by rw[<- hst] at hi;obtain⟨j,hj,rfl⟩:=List.mem_map.1 hi;have:=List.mem_range.1 (List.mem_reverse.1 hj);exact⟨b+j,rfl,by omega⟩
 have m2:∀S,b+d.nd.vars.length+1<=S->∀i∈ld,∃n:Nat,i=(1,(n:Int))/\n<S:=λS hS i hi=>by rw[<- hld] at hi;obtain⟨j,hj,rfl⟩:=List.mem_map.1 hi;have:=List.mem_range.1 hj;exact⟨b+(d.nd.ins+j),rfl,by omega⟩
 have z1:=zTx st (λi hi=>by obtain⟨n,rfl,_⟩:=m1 _ (zMK _) i hi;exact (by decide:(2:Nat)≠0));have z2:=zTx ld (λi hi=>by obtain⟨n,rfl,_⟩:=m2 _ (zMK _) i hi;exact (by decide:(1:Nat)≠0));obtain⟨R,C,e1,e2,e3,e4,e5,e6⟩:=y1.ex;have hrow:K2.row=K.row++(st++whM c base fu k++R):=by
  rw[e1]
  show K.row++st++whM c base fu k++R=_;simp
 refine⟨⟨st++whM c base fu k++R++ld,C,?_,e2,e3,e4,?_,λS N h hS1 hS2 hN=>?_⟩,y1.bools,y1.outs,y1.s1,y1.s2⟩
 . show K2.row++ld=_;rw[hrow,zMQ]
 . rw[zTm,zTm,zTm];omega
 have hS3:b+d.nd.vars.length+1<=S:=zMO y2 hS2;have p1:=zTA (S:=S) (N:=N) st h (m1 S hS3);rw[ls] at p1;have p2:=w2 S N h (by omega);have p3:=e6 S N h (zMN _) hS2 hN;have p4:=zT2 (S:=S) (N:=N) ld h (m2 S hS3);rw[ll] at p4;exact ((p1.app p2).app p3).app p4
theorem zU5 {BD:Sc->Nat->Prop}(hfu:fu<=18)(hBD:∀d md,BD d md->zTB bod (base+c.nd.vars.length+1) hi d md){o:Nat}(hg:Gt c m BD t o)(hk:CkV c k){s s':Cd×List Lt}(hs:VOk c m BD (base+c.nd.vars.length+1) hi (if t.k=9 then 0 else t.ts.length) (if t.k=9 then 0 else 9*vzL t.ts+13600*czL m t.ts) (if t.k=9 then 0 else czL m t.ts) s s') :
 VOk c m BD (base+c.nd.vars.length+1) hi o (9*vz t+13600*cz m t-2*(o-1)) (cz m t) s (zal bod c base fu s' t k):=by
 cases hg with
 | mk x a nm p n ts o ar nn cl o1 hr =>
   have hts:(Tm.mk x a nm p n ts).ts=ts:=rfl;have hx:(Tm.mk x a nm p n ts).k=x:=rfl;have hnm:(Tm.mk x a nm p n ts).s=nm:=rfl;rw[hts,hx] at hs;have hlt:=zU9 ar;obtain⟨new,w,nc,e1,e2,e3,e4,e5⟩:=hs.ex;rw[zBn,zUM];have key:∀(op:Nat) (y:Int) (b:Nat),zTl [(op,y)]<=9->x≠4->x≠9->(∀S N h,base+c.nd.vars.length+1<=S->Pc S N (h+ts.length) (h+1) [(op,y)])->VOk c m BD (base+c.nd.vars.length+1) hi o (9*(1+vzL ts)+13600*(za9 m (.mk x a nm p n ts)+czL m ts)-2*(o-1)) (za9 m (.mk x a nm p n ts)+czL m ts) s (s'.1.add op y,s'.2):=(by intro op y b hb h4 h9 hp;rw[zM1 h9] at e2 e3 e4;have ho:=o1 h4;subst ho;have l1:Ly s'.1 (s'.1.add op y) (base+c.nd.vars.length+1) hi ts.length 1 9 0:=Ly.adds hb (λS N h hS _=>hp S N h hS);exact⟨new,w+9,nc+0,e1,e2.trans l1,by omega,by omega,λz hz=>⟨(e5 z hz).1,(e5 z hz).2⟩⟩);unfold zal;rw[hx,hnm,hts];split
   . rename_i h2
     refine key 0 _ 1 (zTI _ _) (by omega) (by omega) (λS N h _=>?_);have h0:ts.length=0:=(by unfold arB at ar;rw[zM2 (by omega)] at ar;simpa using ar);rw[h0];exact Pc.push (zT6 _ nn)
   split
   . rename_i h3
     refine key 1 _ 1 (zMO (zTo 1 _ (by decide)) (by decide)) (by omega) (by omega) (λS N h hS=>?_);have h0:ts.length=0:=(by unfold arB at ar;rw[zM2 (by omega)] at ar;simpa using ar);rw[h0];exact Pc.load (by have:=zmN c nm;omega)
   split
   . rename_i h7
     have h0:ts.length=1:=(by unfold arB at ar;rw[zM1 (by omega),zM1 (by omega),zM1 (by omega),zM1 (by omega),zM2 (by omega)] at ar;simpa using ar);rw[zM1 (by omega),h0] at e2;rw[zM1 (by omega)] at e3 e4;have ho:=o1 (by omega);subst ho;exact⟨new,w,nc,e1,e2,by omega,by omega,e5⟩
   split
   . rename_i h6
     refine key 6 _ 1 (zMO (zTo 6 _ (by decide)) (by decide)) (by omega) (by omega) (λS N h hS=>?_);have h0:ts.length=2:=(by unfold arB at ar;rw[zM1 (by omega),zM1 (by omega),zM1 (by omega),zM2 (by omega)] at ar;simpa using ar);rw[h0];exact Pc.choose (by have:=zmN c nm;omega)
   split
   . rename_i h9
     have h0:ts.length=2:=(by unfold arB at ar;rw[zM1 (by omega),zM1 (by omega),zM1 (by omega),zM1 (by omega),zM1 (by omega),zM2 (by omega)] at ar;simpa using ar);rw[zM2 h9] at e2 e3 e4;have ho:=o1 (by omega);subst ho;obtain⟨u,v,rfl⟩:∃u v,ts=[u,v]:=by
      match ts,h0 with
      | [u,v],_=>exact⟨u,v,rfl⟩
     have hct:za9 m (.mk x a nm p n [u,v])=1:=(by unfold za9;rw[zM2 (show (Tm.mk x a nm p n [u,v]).k=9 from h9)]);have nn':nmL [u,v]=true:=(by rw[nmB,Bool.and_eq_true] at nn;exact nn.2);have l1:Ly s'.1 ((s'.1.cell (zhD [u,v])).add 3 s'.1.cells.length) (base+c.nd.vars.length+1) hi 0 1 2 1:=by
      refine⟨⟨[(3,(s'.1.cells.length:Int))],[zhD [u,v]],rfl,rfl,λz hz=>?_,zMK _,zTo 3 _ (by decide),λS N h _ _ hN=>?_⟩,rfl,rfl,zMK _,by show s'.1.slots<=_;omega⟩
      . rw[zMZ.1 hz];exact zUw _ nn'
      refine Pc.recall ?_;have:(s'.1.cells++[zhD [u,v]]).length<=N:=hN;simp at this;omega
     have hln:((s'.1.cell (zhD [u,v])).add 3 s'.1.cells.length).cells.length=s'.1.cells.length+1:=(by show (s'.1.cells++[zhD [u,v]]).length=_;simp);rw[hct];have q1:=zys u [v];have q2:=zys v [];have q3:=zTw m u [v];have q4:=zTw m v [];have q5:=zyZ;refine⟨new++[⟨s'.1.cells.length,v,k⟩],w+2,nc+1,by show s'.2++_=_;rw[e1,zMQ],e2.trans l1,?_,?_,λz hz=>?_⟩
     . rw[zTu,pwL,pwL];show w+2+(pwL m new+(9*vz v+13600*cz m v+90+0))<=_;omega
     . rw[zTv,pcL,pcL];show nc+1+(pcL m new+(cz m v+0))<=_;omega
     show _/\_<((s'.1.cell (zhD [u,v])).add 3 s'.1.cells.length).cells.length;rw[hln];rcases zMY.1 hz with hz|hz
     . have:=e5 z hz;exact⟨this.1,by omega⟩
     rw[zMZ.1 hz];exact⟨⟨hr v (by simp),hk⟩,zMV _⟩
   split
   . rename_i h4
     obtain⟨d,d1,d2,d3,d4,d5,d6⟩:=cl h4;rw[zM1 (by omega)] at e2 e3 e4;have l1:=zVb (t:=.mk x a nm p n ts) (K:=s'.1) hfu d1 d2 d4 d5 hk (hBD d _ d6);rw[hts,d3] at l1;have hct:za9 m (.mk x a nm p n ts)=1+zbi nm m:=(by unfold za9;rw[zM1 (show ¬(Tm.mk x a nm p n ts).k=9 by rw[hx];omega),zM2 (show (Tm.mk x a nm p n ts).k=4 from h4)];rfl);have hcl:=l1.cl;rw[hct];refine⟨new,w+(13440+13600*zbi nm m),nc+zbi nm m,e1,e2.trans l1,by omega,by omega,λz hz=>⟨(e5 z hz).1,by have:=(e5 z hz).2;show z.cell<(zeb bod c base fu s'.1 _ k).cells.length;omega⟩⟩
   rename_i h1 h2 h3 h4 h5 h6
   refine key (zlY x) 0 1 (zTI _ _) h6 h5 (λS N h _=>?_);by_cases h5':x=5
   . have h0:ts.length=3:=(by unfold arB at ar;rw[zM1 (by omega),zM1 (by omega),zM2 (by omega)] at ar;simpa using ar);rw[h0,h5'];exact Pc.oper (a:=3) rfl
   have hsh:=zVf (k:=x) (by omega) hlt;have h0:ts.length=if x<=11 then 1 else 2:=by
    unfold arB at ar;rw[zM1 (by omega),zM1 (by omega),zM1 (by omega),zM1 (by omega),zM1 (by omega),zM1 (by omega)] at ar;by_cases h11:x<=11
    . rw[zM2 h11] at ar ⊢;simpa using ar
    rw[zM1 h11,zM2 (by omega)] at ar;rw[zM1 h11];simpa using ar
   rw[h0];exact Pc.oper hsh
theorem zUB {BD:Sc->Nat->Prop}(hfu:fu<=18)(hBD:∀d md,BD d md->zTB bod (base+c.nd.vars.length+1) hi d md):∀(t:Tm) (o:Nat),Gt c m BD t o->∀(k:Nat×Nat),CkV c k->∀s:Cd×List Lt,
 VOk c m BD (base+c.nd.vars.length+1) hi o (9*vz t+13600*cz m t-2*(o-1)) (cz m t) s (zbk bod c base fu s t k):=by
 intro t;induction t using Tm.ind with
 | h x a nm p n ts ih =>
   intro o hg k hk s;have hr:∀u∈ts,Gt c m BD u 1:=(by cases hg;assumption);have hl:∀(l:List Tm) (i:Nat) (s:Cd×List Lt),(∀u∈l,u∈ts)->VOk c m BD (base+c.nd.vars.length+1) hi l.length (9*vzL l+13600*czL m l) (czL m l) s (zcu c (λt _=>zak t) (λs _ _=>s) (zal bod c base fu) (.mk x a nm p n ts) k l i s):=by
    intro l;induction l with
    | nil=>intro i s _;rw[zcu];exact⟨[],0,0,by simp,Ly.refl,by show 0+0<=_;omega,by show 0+0<=_;omega,λz hz=>by cases hz⟩
    | cons u l ihl =>
      intro i s hu;rw[zcu];obtain⟨n1,w1,c1,a1,a2,a3,a4,a5⟩:=(ih u (hu u (zMS ..)) 1 (hr u (hu u (zMS ..))) (c.operand (.mk x a nm p n ts) i k) (zUC hk) s).ex;unfold zbk at a1 a2 a5;obtain⟨s1,hs1⟩:∃s1,zcs c (λt _=>zak t) (λs _ _=>s) (zal bod c base fu) u (c.operand (.mk x a nm p n ts) i k) s=s1:=⟨_,rfl⟩;rw[hs1] at a1 a2 a5 ⊢;obtain⟨n2,w2,c2,b1,b2,b3,b4,b5⟩:=(ihl (i+1) s1 (λv hv=>hu v (zMX _ hv))).ex;have h2:=b2.up 1;rw[show 1+0=1 from rfl,Nat.add_comm 1 l.length] at h2;have hcl:=b2.cl;refine⟨n1++n2,w1+w2,c1+c2,by rw[b1,a1,zMQ],a2.trans h2,?_,?_,λz hz=>?_⟩
      . rw[zTu,zys,zTw];omega
      . rw[zTv,zTw];omega
      rcases zMY.1 hz with hz|hz
      . have:=a5 z hz;exact⟨this.1,by omega⟩
      exact b5 z hz
   unfold zbk;rw[zcs];refine zU5 hfu hBD hg hk ?_;have hx:(Tm.mk x a nm p n ts).k=x:=rfl;have hts:(Tm.mk x a nm p n ts).ts=ts:=rfl;rw[hx,hts];by_cases h9:x=9
   . have hn:zak (.mk x a nm p n ts)=false:=(by unfold zak;rw[hx,h9];rfl);rw[zM1 (show ¬(zak (Tm.mk x a nm p n ts)=true) by rw[hn];decide),zM2 h9,zM2 h9,zM2 h9];exact⟨[],0,0,by simp,Ly.refl,zMK _,zMK _,λz hz=>by cases hz⟩
   have hn:zak (.mk x a nm p n ts)=true:=(by unfold zak;rw[hx];simpa using h9);rw[zM2 hn,zM1 h9,zM1 h9,zM1 h9];exact hl ts 0 s (λu hu=>hu)
end
end
section
section
variable (g:Qn->Nat)
def zTr:List Bool->List Qn->Nat
 | b::bs,q::qs=>(if b=true then 0 else g q)+zTr bs qs
 | _,_=>0
theorem zT1:∀{bs:Xk} {qs:List Qn} {i:Nat} {q:Qn},bs[i]?=some false->qs[i]?=some q->zTr g (bs.set i true) qs+g q=zTr g bs qs
 | b::bs,x::qs,0,q,h1,h2=>by simp at h1 h2;subst h1 h2;rw[zsa,zTr,zTr,zM2 rfl,zM1 (by decide)];omega
 | b::bs,x::qs,i+1,q,h1,h2=>by have:=zT1 (bs:=bs) (qs:=qs) (i:=i) (q:=q) (by simpa using h1) (by simpa using h2);rw[zr9,zTr,zTr];omega
 | [],_,_,_,h1,_=>by simp at h1
 | _::_,[],_,_,_,h2=>by simp at h2
def zTy (s:Os)(eqs:List Qn):Nat:=(s.2.map g).sum+zTr g s.1 eqs
theorem zTQ (c:Sc)(L:List (Nat×Nat))(eqs:List Qn):∀(f i:Nat) (s:Os),s.1.length=eqs.length->zTy g (zaq c L eqs f i s) eqs<=zTy g s eqs
 | 0,i,s,_=>zMK _
 | f+1,i,s,hs=>by
   have hl:∀(q:Qn) (l:List Qn) (j:Nat) (s:Os),s.1.length=eqs.length->zTy g (zba (zaq c L eqs f) c L q l j s) eqs<=zTy g s eqs:=by
    intro q l;induction l with
    | nil=>intro j s _;exact zMK _
    | cons o l ih =>
      intro j s hs;rw[zba];split
      . exact zMO (ih (j+1) _ (by rw[(zhB c L eqs f j s).1];exact hs)) (zTQ c L eqs f j s hs)
      exact ih (j+1) s hs
   rw[zaq];cases hq:eqs[i]? with
   | none=>exact zMK _
   | some q =>
     simp only;split
     . exact zMK _
     rename_i hn
     have hi:=(zMJ.1 hq).1;have hb:s.1[i]?=some false:=by
      have e:=zsc (show i<s.1.length by omega);rw[List.getD_eq_getElem?_getD,e] at hn;rw[e];cases hv:s.1[i] with
      | false=>rfl
      | true=>rw[hv] at hn;exact absurd rfl hn
     have h1:=zT1 g hb hq;have h2:=hl q eqs 0 (s.1.set i true,s.2) (by simpa using hs);generalize zba (zaq c L eqs f) c L q eqs 0 (s.1.set i true,s.2)=P at *;unfold zTy at h2 ⊢;simp only[List.map_append,List.map_cons,List.map_nil,List.sum_append,List.sum_cons,List.sum_nil] at h2 ⊢;omega
theorem zTz (c:Sc):((zac c).map g).sum<=(c.nd.eqs.map g).sum:=by
 have hf:∀(n m:Nat) (s:Os),s.1.length=c.nd.eqs.length->zTy g (zeG (zaq c c.linksL c.nd.eqs c.nd.eqs.length) n m s) c.nd.eqs<=zTy g s c.nd.eqs:=by
  intro n m;induction m with
  | zero=>intro s _;exact zMK _
  | succ m ih => intro s hs;rw[zeG];exact zMO (ih _ (by rw[(zhB c c.linksL c.nd.eqs c.nd.eqs.length _ s).1];exact hs)) (zTQ g c _ _ _ _ s hs)
 have hr:∀qs:List Qn,zTr g (List.replicate qs.length false) qs=(qs.map g).sum:=by
  intro qs;induction qs with
  | nil=>rfl
  | cons q qs ih=>rw[zMR,List.replicate_succ,zTr,ih,zM1 (by decide),List.map_cons,List.sum_cons]
 have:=hf c.nd.eqs.length c.nd.eqs.length (List.replicate c.nd.eqs.length false,[]) (by simp);unfold zTy at this;unfold zac;rw[hr] at this;simp only[List.map_nil,List.sum_nil] at this;omega
end
section
variable {bod:Sc->Nat->Cd->Cd} {c:Sc} {base fu hi:Nat} {m:List (ByteArray×Nat)} {BD:Sc->Nat->Prop}
theorem zVj {t:Tm}{o:Nat}(h:Gt c m BD t o)(ho:2<=o):1<=cz m t:=by
 cases h with
 | mk k a s nm n ts o ar nn cl o1 hr =>
   have hk:k=4:=Classical.byContradiction λe=>by have:=o1 e;omega
   rw[zUM];unfold za9;rw[zM1 (show ¬(Tm.mk k a s nm n ts).k=9 by show ¬k=9;omega),zM2 (show (Tm.mk k a s nm n ts).k=4 from hk)];omega
def zT4 (m:List (ByteArray×Nat))(q:Qn):Nat:=9*vz q.r+13600*cz m q.r+2
theorem zUv (hfu:fu<=18)(hBD:∀d md,BD d md->zTB bod (base+c.nd.vars.length+1) hi d md):∀(l:List Qn),(∀q∈l,Gt c m BD q.r q.ns.length/\1<=q.ns.length/\q.ns.length<=16)->∀s:Cd×List Lt,
 VOk c m BD (base+c.nd.vars.length+1) hi 0 (l.map (zT4 m)).sum (l.map λq=>cz m q.r).sum s (zbH bod c base fu l s)
 | [],_,s=>⟨[],0,0,by simp[zbH],by rw[zbH];exact Ly.refl,zMK _,zMK _,λz hz=>by cases hz⟩
 | q::l,hl,s=>by
   obtain⟨q1,q2,q3⟩:=hl q (zMS ..);rw[zbH];obtain⟨n1,w1,c1,a1,a2,a3,a4,a5⟩:=(zUB (hi:=hi) hfu hBD q.r q.ns.length q1 (c.of (c.idx (q.ns.headD ⟨#[]⟩))) (zTJ c _) s).ex;obtain⟨s1,hs1⟩:∃s1,zbk bod c base fu s q.r (c.of (c.idx (q.ns.headD ⟨#[]⟩)))=s1:=⟨_,rfl⟩;rw[hs1] at a1 a2 a5 ⊢;obtain⟨st,hst⟩:∃st,zdh c base (zbo (zdl q.ns q.ps) q.ns.length q.ns.length)=st:=⟨_,rfl⟩;rw[hst];have ls:st.length=q.ns.length:=(by rw[<- hst];unfold zdh;rw[List.length_map,zeU]);have m1:∀i∈st,∃n:Nat,i=(2,(n:Int))/\n<base+c.nd.vars.length+1:=λi hi=>by rw[<- hst] at hi;unfold zdh at hi;obtain⟨j,_,rfl⟩:=List.mem_map.1 hi;exact⟨base+c.idx j.2.1,rfl,by have:=zmN c j.2.1;omega⟩
   have z1:=zTx st (λi hi=>by obtain⟨n,rfl,_⟩:=m1 i hi;exact (by decide:(2:Nat)≠0));have l1:Ly s1.1 (s1.1.adds st) (base+c.nd.vars.length+1) hi q.ns.length 0 (2*q.ns.length) 0:=Ly.adds (by omega) (λS N h hS _=>by
    have:=zTA (S:=S) (N:=N) st h (λi hi=>by obtain⟨n,e,hn⟩:=m1 i hi;exact⟨n,e,by omega⟩);rw[ls] at this;exact this)
   obtain⟨n2,w2,c2,b1,b2,b3,b4,b5⟩:=(zUv hfu hBD l (λq hq=>hl q (zMX _ hq)) (s1.1.adds st,s1.2)).ex;have hcl:=b2.cl;have hcl':s1.1.cells.length<=(zbH bod c base fu l (s1.1.adds st,s1.2)).1.cells.length:=hcl;refine⟨n1++n2,w1+2*q.ns.length+w2,c1+0+c2,by rw[b1,a1,zMQ],(a2.trans l1).trans b2,?_,?_,λz hz=>?_⟩
   . rw[zTu,List.map_cons,List.sum_cons];unfold zT4 at b3 ⊢;by_cases h2:2<=q.ns.length
     . have:=zVj q1 h2;omega
     omega
   . rw[zTv,List.map_cons,List.sum_cons];omega
   rcases zMY.1 hz with hz|hz
   . have:=a5 z hz;exact⟨this.1,by omega⟩
   exact b5 z hz
theorem zTP (hfu:fu<=18)(hBD:∀d md,BD d md->zTB bod (base+c.nd.vars.length+1) hi d md):∀(g:Nat) (s:Cd×List Lt),(∀x∈s.2,zUP c m BD x/\x.cell<s.1.cells.length) ->
 Ly s.1 (zcj bod c base fu g s) (base+c.nd.vars.length+1) hi 0 0 (pwL m s.2) (pcL m s.2)
 | 0,s,_=>Ly.refl.mono (zMK _) (zMK _) (zMN _) (zMN _)
 | g+1,s,hs=>by
   obtain⟨K,ls⟩:=s;cases ls with
   | nil=>exact Ly.refl.mono (zMK _) (zMK _) (zMN _) (zMN _)
   | cons x r =>
     obtain⟨x1,x2⟩:=hs x (zMS ..);obtain⟨w1,w2⟩:=zTZ c base fu x.clock x1.ck;have l1:Ly K (K.adds (whM c base fu x.clock)) (base+c.nd.vars.length+1) hi 0 1 74 0:=Ly.adds (by omega) (λS N h hS _=>w2 S N h hS);obtain⟨n1,wv,c1,a1,a2,a3,a4,a5⟩:=(zUB (hi:=hi) hfu hBD x.next 1 x1.gt x.clock x1.ck (K.adds (whM c base fu x.clock),r)).ex
     show Ly K (zcj bod c base fu g ((zbk bod c base fu (K.adds (whM c base fu x.clock),r) x.next x.clock).1.add 4 x.cell,(zbk bod c base fu (K.adds (whM c base fu x.clock),r) x.next x.clock).2)) _ _ 0 0 (pwL m (x::r)) (pcL m (x::r));obtain⟨s1,hs1⟩:∃s1,zbk bod c base fu (K.adds (whM c base fu x.clock),r) x.next x.clock=s1:=⟨_,rfl⟩;rw[hs1] at a1 a2 a5 ⊢;have hcl:K.cells.length<=s1.1.cells.length:=a2.cl;have x2':x.cell<K.cells.length:=x2;have l2:=a2.up 1;have l3:Ly s1.1 (s1.1.add 4 x.cell) (base+c.nd.vars.length+1) hi 2 0 2 0:=Ly.adds (zTo 4 _ (by decide)) (λS N h _ hN=>Pc.keep (by omega));have l4:=zTP hfu hBD g (s1.1.add 4 x.cell,s1.2) (λz hz=>by
      show _/\z.cell<s1.1.cells.length;rw[show s1.2=r++n1 from a1] at hz;rcases zMY.1 hz with hz|hz
      . have:=hs z (zMX _ hz);exact⟨this.1,by have h2:z.cell<K.cells.length:=this.2;omega⟩
      exact a5 z hz)
     have e1:pwL m s1.2=pwL m r+pwL m n1:=(by rw[show s1.2=r++n1 from a1,zTu]);have e2:pcL m s1.2=pcL m r+pcL m n1:=(by rw[show s1.2=r++n1 from a1,zTv]);have:=((l1.trans l2).trans l3).trans l4;refine this.mono (zMK _) (zMK _) ?_ ?_
     . show 74+wv+2+pwL m s1.2<=9*vz x.next+13600*cz m x.next+90+pwL m r;omega
     show 0+c1+0+pcL m s1.2<=cz m x.next+pcL m r;omega
end
theorem zUK {fu gas f:Nat}{c:Sc}{base hi md:Nat}{m:List (ByteArray×Nat)}{BD:Sc->Nat->Prop}(hfu:fu<=18)(hBD:∀d md,BD d md->zTB (zca fu gas f) (base+c.nd.vars.length+1) hi d md)(hhi:base+c.nd.vars.length+1<=hi)(hq:∀q∈c.nd.eqs,Gt c m BD q.r q.ns.length/\1<=q.ns.length/\q.ns.length<=16)(hv:(c.nd.eqs.map λq=>vz q.r).sum<=1201)(hm:(c.nd.eqs.map λq=>cz m q.r).sum=md):zTB (zca fu gas (f+1)) base hi c md:=by
 intro K;rw[zca];obtain⟨K0,hK0⟩:∃K0,(K.slotsTo (base+c.nd.vars.length+1)).add 2 ((base+c.nd.vars.length:Nat):Int)=K0:=⟨_,rfl⟩;rw[hK0];have s0:K0.slots=max K.slots (base+c.nd.vars.length+1):=by rw[<- hK0];rfl
 have l0:Ly K K0 (base+c.nd.vars.length+1) hi 1 0 2 0:=by refine⟨⟨[(2,((base+c.nd.vars.length:Nat):Int))],[],by rw[<- hK0];rfl,by rw[<- hK0];show K.cells=_;simp,(λx hx=>by cases hx),zMK _,zTo 2 _ (by decide),λS N h hS _ _=>Pc.store (by omega)⟩,by rw[<- hK0];rfl,by rw[<- hK0];rfl,by omega,by omega⟩
 obtain⟨new,w1,c1,a1,a2,a3,a4,a5⟩:=(zUv hfu hBD (zac c) (λq hq'=>hq q (zhe c q hq')) (K0,[])).ex;obtain⟨s1,hs1⟩:∃s1,zbH (zca fu gas f) c base fu (zac c) (K0,[])=s1:=⟨_,rfl⟩;rw[hs1] at a1 a2 a5 ⊢;have a1':s1.2=new:=a1;have l1:=zTP (m:=m) hfu hBD gas s1 (λx hx=>a5 x (by rw[a1'] at hx;exact hx));rw[a1'] at l1;have o1:=zTz (zT4 m) c;have o2:=zTz (λq=>cz m q.r) c;have e9:∀l:List Qn,(l.map (zT4 m)).sum=9*(l.map λq=>vz q.r).sum+13600*(l.map λq=>cz m q.r).sum+2*l.length:=by
  intro l;induction l with
  | nil=>rfl
  | cons q l ih=>simp only[List.map_cons,List.sum_cons,zMR,ih];unfold zT4;omega
 have hle:c.nd.eqs.length<=(c.nd.eqs.map λq=>vz q.r).sum:=by
  have:∀l:List Qn,l.length<=(l.map λq=>vz q.r).sum:=by
   intro l;induction l with
   | nil=>exact zMK _
   | cons q l ih =>
     have:1<=vz q.r:=by cases q.r;rw[zBn];omega
     simp only[List.map_cons,List.sum_cons,zMR];omega
  exact this _
 rw[e9 c.nd.eqs] at o1;have L:=(l0.trans a2).trans l1;have hs:base+c.nd.vars.length+1<=(zcj (zca fu gas f) c base fu gas s1).slots:=by have h1:K0.slots<=s1.1.slots:=a2.s1;have h2:=l1.s1;omega
 refine⟨?_,hs⟩;have L2:=L.mono (lo':=base+c.nd.vars.length+1) (hi':=hi) (w':=13300+13600*md) (n':=md) (zMK _) (zMK _) (by omega) (by omega);obtain⟨R,C,e1,e2,e3,e4,e5,e6⟩:=L2.ex;exact⟨⟨R,C,e1,e2,e3,e4,e5,λS N h _ hS hN=>e6 S N h (zMO hs hS) hS hN⟩,L2.bools,L2.outs,L2.s1,L2.s2⟩
end
section
variable {ns:List Nod}
theorem zKZ (l:Xn):zed l=l.sum:=by
 have:∀(l:Xn) (a:Nat),l.foldl (·+·) a=a+l.sum:=by
  intro l;induction l with
  | nil=>intro a;simp
  | cons x l ih=>intro a;rw[List.foldl_cons,ih,List.sum_cons];omega
 unfold zed;rw[this];omega
def mmF (ns:List Nod):Nat->List (ByteArray×Nat)
 | 0=>[]
 | k+1=>match ns[k]? with
   | none=>mmF ns k
   | some n=>(n.nm,zcg n (mmF ns k))::mmF ns k
def MK (ns:List Nod)(k:Nat):Nat:=match ns[k]? with
 | none=>0
 | some n=>zcg n (mmF ns k)
def zKB (ns:List Nod):Prop:=∀(i j:Nat) (n m:Nod),ns[i]?=some n->ns[j]?=some m->n.nm=m.nm->i=j
theorem zKc (hu:zKB ns):∀(k:Nat),k<=ns.length->∀(f:Nat) (n:Nod),f<k->ns[f]?=some n->zbi n.nm (mmF ns k)=MK ns f
 | 0,_,f,n,hf,_=>by omega
 | k+1,hk,f,n,hf,hn=>by
   obtain⟨m,hm⟩:∃m,ns[k]?=some m:=⟨_,zsc (by omega)⟩;rw[mmF,hm];simp only;rw[zbi];by_cases hfk:f=k
   . subst hfk;rw[hm] at hn;cases hn;rw[zM2 rfl,MK,hm]
   have hne:¬m.nm=n.nm:=λe=>hfk (hu f k n m hn hm e.symm);rw[zM1 hne];exact zKc hu k (by omega) f n (by omega) hn
theorem zKS {ns:List Nod}:∀(j k x:Nat),k+j+1=ns.length->zfW (ns.drop k) (mmF ns k) x=MK ns (ns.length-1)
 | 0,k,x,h=>by obtain⟨n,hn⟩:∃n,ns[k]?=some n:=⟨_,zsc (by omega)⟩;rw[zMT (show k<ns.length by omega),(zMJ.1 hn).2,zfW,List.drop_of_length_le (by omega),zfW,show ns.length-1=k by omega,MK,hn]
 | j+1,k,x,h=>by obtain⟨n,hn⟩:∃n,ns[k]?=some n:=⟨_,zsc (show k<ns.length by omega)⟩;have:=zKS (ns:=ns) j (k+1) (zcg n (mmF ns k)) (by omega);rw[mmF,hn] at this;rw[zMT (show k<ns.length by omega),(zMJ.1 hn).2,zfW];exact this
end
section
theorem zJv:∀(n:Nat) (l:Xn),(∀x∈l,x<n)->l.Nodup->l.length<=n
 | 0,l,h,_=>by
   cases l with
   | nil=>exact zMK _
   | cons x l=>exact absurd (h x (zMS ..)) (Nat.not_lt_zero _)
 | n+1,l,h,hn=>by
   have h1:=zJv n (l.erase n) (λx hx=>by
    have:=h x (List.mem_of_mem_erase hx);have:=(hn.mem_erase_iff.1 hx).1;omega) (hn.erase n)
   rw[List.length_erase] at h1;split at h1 <;> omega
end
section
variable {n:Nat} {g:Nat->Option Nat}
def itD (g:Nat->Option Nat):Nat->Nat->Option Nat
 | 0,p=>some p
 | m+1,p=>(g p).bind (itD g m)
theorem zI1 (b:Nat):∀(a p:Nat),itD g (a+b) p=(itD g a p).bind (itD g b)
 | 0,p=>by rw[Nat.zero_add];rfl
 | a+1,p=>by rw[show a+1+b=(a+b)+1 by omega,itD,itD,Option.bind_assoc];congr 1;funext q;exact zI1 b a q
theorem zLY {m p x:Nat}(hg:∀i j,g i=some j->j<n)(hp:p<n)(h:itD g m p=some x):x<n:=by
 induction m generalizing p with
 | zero=>cases h;exact hp
 | succ m ih => rw[itD] at h;obtain⟨j,h1,h2⟩:=Option.bind_eq_some_iff.1 h;exact ih (hg _ _ h1) h2
theorem zLV {f:Nat->Nat}(hf:∀x,x<=n->f x<n):∃a b,a<b/\b<=n/\f a=f b:=by
 refine Classical.byContradiction λhno=>?_;have hnd:((List.range (n+1)).map f).Nodup:=by rw[List.Nodup,List.pairwise_map];refine List.Pairwise.imp_of_mem ?_ List.pairwise_lt_range;intro a b _ hb hab e;exact hno ⟨a,b,hab,by have:=List.mem_range.1 hb;omega,e⟩
 have:=zJv n _ (λx hx=>by obtain⟨a,h1,rfl⟩:=List.mem_map.1 hx;exact hf a (by have:=List.mem_range.1 h1;omega)) hnd;simp at this;omega
end
section
variable {s:Xb} {m:List (ByteArray×Nat)} {gas k:Nat} {n:Nod} {q:Qn} {BD:Sc->Nat->Prop} {t u:Tm} {g:Tm->Bool}
structure zT7 (ns:List Nod):Prop where
 wf:∀n∈ns,zeJ n
 six:ns.length<=6
 sz:∀n∈ns,(n.eqs.map λq=>vz q.r).sum<=1201
 nm:∀n∈ns,∀q∈n.eqs,nmB q.r=true
 names:∀k n,ns[k]?=some n->(Sc.mk (ns.take k) n).namesL=[]
 clocks:∀k n,ns[k]?=some n->(Sc.mk (ns.take k) n).clocksL=[]
section
variable {ns:List Nod}
theorem zTO {d:Sc}(h:(Sc.mk (ns.take k) n).called s=some d):∃i n',i<k/\ns[i]?=some n'/\d=⟨ns.take i,n'⟩/\n'.nm=s:=by
 unfold Sc.called at h;simp only at h;cases hf:zgg s (ns.take k) 0 with
 | none=>rw[hf] at h;cases h
 | some i => rw[hf] at h;simp only at h;obtain⟨_,h2,v,h3,h4⟩:=zIb hf;rw[Nat.sub_zero] at h3;rw[h3] at h;simp only at h;have hik:i<k:=(by rw[Nat.zero_add,List.length_take] at h2;omega);rw[List.getElem?_take,zM2 hik] at h3;refine⟨i,v,hik,h3,?_,h4⟩;cases h;rw[List.take_take,Nat.min_eq_left (by omega)]
theorem zT3:∀{l:List Nod} {i:Nat} {n:Nod},n∈l->n.nm=s->(zgg s l i).isSome=true
 | m::l,i,n,h,hs=>by
   unfold zgg;split
   . rfl
   rename_i hm
   rcases zNa.1 h with rfl|h
   . exact absurd hs hm
   exact zT3 h hs
theorem zU2 (h:zT7 ns):zKB ns:=by
 have key:∀(i j:Nat) (n m:Nod),i<j->ns[i]?=some n->ns[j]?=some m->n.nm=m.nm->False:=by
  intro i j n m hij hn hm e;have h1:=h.names j m hm;unfold Sc.namesL at h1;rw[zM7,zM7,zM7] at h1;have h2:=h1.1.1.1;have h3:=zT3 (s:=m.nm) (l:=ns.take j) (i:=0) (n:=n) (zML (i:=i) (by rw[List.getElem?_take,zM2 hij];exact hn)) e;obtain⟨x,hx⟩:=Option.isSome_iff_exists.1 h3;obtain⟨_,h5,v,h6,_⟩:=zIb hx;rw[Nat.sub_zero] at h6;have h4:((Sc.mk (ns.take j) m).called m.nm).isSome=true:=by unfold Sc.called;simp only;rw[hx];simp only;rw[h6];rfl
  rw[zM2 h4] at h2;cases h2
 intro i j n m hn hm e;rcases Nat.lt_trichotomy i j with h1|h1|h1
 . exact (key i j n m h1 hn hm e).elim
 . exact h1
 exact (key j i m n h1 hm hn e.symm).elim
theorem zTT {c:Sc}(h:c.namesL=[])(hq:q∈c.nd.eqs)(hu:u∈zaV za5 q.r)(hk:u.k=4):∃d,c.called u.s=some d/\d.nd.ins=u.ts.length/\d.nd.outs=zda q u:=by
 unfold Sc.namesL at h;rw[zM7] at h;have h5:=zgU (zgU h.2 q hq) u hu;unfold zaL at h5;rw[zM7] at h5;have h6:=h5.2;cases hf:c.fits u (zda q u) with
 | false=>rw[hf,hk] at h6;simp at h6
 | true =>
   unfold Sc.fits at hf;split at hf
   . cases hf
   rename_i d hd
   simp only[Bool.and_eq_true,beq_iff_eq] at hf;exact⟨d,hd,hf.1,hf.2⟩
theorem zJD:∀{l:List Tm},u∈zdk g l->∃t∈l,u∈zaV g t
 | [],h=>by rw[zdk] at h;cases h
 | t::l,h=>by
   rw[zdk] at h;rcases zMY.1 h with h|h
   . exact⟨t,zMS ..,h⟩
   obtain⟨t',h1,h2⟩:=zJD h;exact⟨t',zMX _ h1,h2⟩
theorem zTN:∀{l:List Tm},t∈l->u∈zaV g t->u∈zdk g l
 | x::l,h,hu=>by
   rw[zdk];rcases zNa.1 h with rfl|h
   . exact List.mem_append_left _ hu
   exact List.mem_append_right _ (zTN h hu)
theorem zTD (t:Tm):t∈zaV za5 t:=by cases t;rw[zaV];exact zMS ..
theorem zTF (h:u∈t.ts):u∈zaV za5 t:=by
 cases t with
 | mk k a s nm n ts => rw[zaV,zM2 (show za5 (.mk k a s nm n ts)=true from rfl)];exact zMX _ (zTN h (zTD u))
theorem zTt:∀(r:Tm) {t u:Tm},t∈zaV za5 r->u∈zaV za5 t->u∈zaV za5 r:=by
 intro r;induction r using Tm.ind with
 | h k a s nm n ts ih =>
   intro t u ht hu;rw[zaV,zM2 (show za5 (.mk k a s nm n ts)=true from rfl)] at ht;rcases zNa.1 ht with rfl|ht
   . exact hu
   obtain⟨t',h1,h2⟩:=zJD ht;rw[zaV,zM2 (show za5 (.mk k a s nm n ts)=true from rfl)];exact zMX _ (zTN h1 (ih t' h1 h2 hu))
theorem zVc:∀(r:Tm) {t:Tm},t∈zaV za5 r->szT t<=szT r:=by
 intro r;induction r using Tm.ind with
 | h k a s nm n ts ih =>
   intro t ht;rw[zaV,zM2 (show za5 (.mk k a s nm n ts)=true from rfl)] at ht;rcases zNa.1 ht with rfl|ht
   . exact zMK _
   obtain⟨t',h1,h2⟩:=zJD ht;have:=ih t' h1 h2;have:=zkw h1;rw[szT];omega
theorem zUr {l:Xn}{x:Nat}(h:x∈l):x<=l.sum:=by
 induction l with
 | nil=>cases h
 | cons y l ih =>
   rw[List.sum_cons];rcases zNa.1 h with rfl|h
   . omega
   have:=ih h;omega
theorem zUU (h:u∈zaV za5 t):za9 m u<=cz m t:=zUr (List.mem_map.2 ⟨u,h,rfl⟩)
def zUJ (c:Sc)(m:List (ByteArray×Nat))(BD:Sc->Nat->Prop)(u:Tm)(o:Nat):Prop:=∃d,c.called u.s=some d/\d.nd.ins=u.ts.length/\d.nd.outs=o/\d.nd.ins+d.nd.outs<=d.nd.vars.length/\d.nd.vars.length<=16/\BD d (zbi u.s m)
theorem zU4 {c:Sc}:∀t:Tm,Wf t->nmB t=true->(∀u∈zaV za5 t,u.k=4->zUJ c m BD u 1)->Gt c m BD t 1:=by
 intro t;induction t using Tm.ind with
 | h k a s nm n ts ih => intro hw hn hc;have hn':=hn;rw[nmB,Bool.and_eq_true] at hn';exact .mk k a s nm n ts 1 hw.ar hn (λh4=>hc _ (zTD _) h4) (λ_=>rfl) (λu hu=>ih u hu (hw.sub hu) (zxp hn'.2 hu) (λx hx h4=>hc x (zTt _ (zTF (show u∈(Tm.mk k a s nm n ts).ts from hu)) hx) h4))
theorem zVg {c:Sc}(hw:Wf q.r)(hn:nmB q.r=true)(h1:1<=q.ns.length)(h4:2<=q.ns.length->q.r.k=4)(hc:∀u∈zaV za5 q.r,u.k=4->zUJ c m BD u (zda q u)):Gt c m BD q.r q.ns.length:=by
 have hroot:zda q q.r=q.ns.length:=by unfold zda;rw[zM2 rfl]
 have hsub:∀u∈zaV za5 q.r,szT u<szT q.r->zda q u=1:=λu _ h=>by unfold zda;rw[zM1 (by omega)]
 cases hr:q.r with
 | mk k a s nm n ts =>
   rw[hr] at hw hn hc hroot hsub h4;have hn':=hn;rw[nmB,Bool.and_eq_true] at hn';refine .mk k a s nm n ts _ hw.ar hn (λhk=>?_) (λhk=>?_) (λu hu=>zU4 u (hw.sub hu) (zxp hn'.2 hu) (λx hx hk=>?_))
   . have:=hc _ (zTD _) hk;rw[hroot] at this;exact this
   . have:¬2<=q.ns.length:=λh=>hk (h4 h);omega
   have hx':=zTt _ (zTF (show u∈(Tm.mk k a s nm n ts).ts from hu)) hx;have:=hc x hx' hk;rw[hsub x hx' (by have:=zVc u hx;have:=zkw hu;rw[szT];omega)] at this;exact this
theorem zVa (hn:ns[k]?=some n)(h:MK ns k<=60):(n.eqs.map λq=>cz (mmF ns k) q.r).sum=MK ns k:=by
 have e:∀l:List Qn,((l.flatMap λq=>zaV za5 q.r).map (za9 (mmF ns k))).sum=(l.map λq=>cz (mmF ns k) q.r).sum:=by
  intro l;induction l with
  | nil=>rfl
  | cons q l ih=>rw[List.flatMap_cons,List.map_append,List.sum_append,ih,List.map_cons,List.sum_cons];rfl
 unfold MK at h ⊢;rw[hn] at h ⊢;simp only at h ⊢;unfold zcg at h ⊢;rw[zKZ,e] at h ⊢;omega
theorem zTL (h:zT7 ns){fu:Nat}(hfu:fu<=18):∀(f k:Nat) (n:Nod),ns[k]?=some n->k<f->MK ns k<=60->∀base,zTB (zca fu gas f) base (base+17*(k+1)) ⟨ns.take k,n⟩ (MK ns k)
 | 0,k,n,_,hk,_,_=>by omega
 | f+1,k,n,hn,hk,h60,base=>by
   have hnm:=zML hn;have hw:=h.wf n hnm;have hsum:=zVa hn h60;have few:=hw.few;refine zUK (m:=mmF ns k) (BD:=λd md=>∃i n',i<k/\ns[i]?=some n'/\d=⟨ns.take i,n'⟩/\md=MK ns i/\md<=60) hfu ?_ (by show base+n.vars.length+1<=_;omega) (λq hq=>?_) (h.sz n hnm) hsum
   . rintro d md ⟨i,n',hi,hn',rfl,rfl,hle⟩ K;obtain⟨b1,b2⟩:=zTL h hfu f i n' hn' (by omega) hle (base+n.vars.length+1) K;exact⟨b1.mono (zMK _) (by omega) (zMK _) (zMK _),b2⟩
   obtain⟨w1,w2,w3,w4⟩:=hw.eqs q hq;have hcal:∀u∈zaV za5 q.r,u.k=4->zUJ ⟨ns.take k,n⟩ (mmF ns k) (λd md=>∃i n',i<k/\ns[i]?=some n'/\d=⟨ns.take i,n'⟩/\md=MK ns i/\md<=60) u (zda q u):=(by intro u hu h4;obtain⟨d,d1,d2,d3⟩:=zTT (h.names k n hn) hq hu h4;obtain⟨i,n',hi,hn',rfl,hnm'⟩:=zTO d1;have hwd:=h.wf n' (zML hn');have hcell:zbi u.s (mmF ns k)=MK ns i:=(by rw[<- hnm'];exact zKc (zU2 h) k (by have:=(zMJ.1 hn).1;omega) i n' hi hn');have h1:za9 (mmF ns k) u=1+MK ns i:=(by unfold za9;rw[zM1 (by omega),zM2 h4,hcell]);have h2:=zUU (m:=mmF ns k) hu;have h3:cz (mmF ns k) q.r<=(n.eqs.map λq=>cz (mmF ns k) q.r).sum:=zUr (List.mem_map.2 ⟨q,hq,rfl⟩);exact⟨_,d1,d2,d3,hwd.io,hwd.few,i,n',hi,hn',rfl,hcell,by omega⟩);refine⟨zVg w3 (h.nm n hnm q hq) w2 w4 hcal,w2,?_⟩;by_cases h2:2<=q.ns.length
   . obtain⟨d,_,_,d3,d4,d5,_⟩:=hcal q.r (zTD _) (w4 h2);have:zda q q.r=q.ns.length:=by unfold zda;rw[zM2 rfl]
     omega
   omega
end
section
variable {c:Sc}
def gC (c:Sc)(i:Nat):Option Nat:=if (c.of i).2=0 then none else some (c.of i).1
theorem zTE:∀{l:List Vr} {i:Nat},zbv c l i=[]->∀j,j<l.length->c.comesBack (i+j)=false
 | v::l,i,h,j,hj=>by
   rw[zbv,zM7] at h;cases j with
   | zero =>
     cases e:c.comesBack i with
     | false=>rfl
     | true=>rw[zM2 e] at h;cases h.1
   | succ j => have:=zTE h.2 j (by simpa using hj);rwa [show i+1+j=i+(j+1) by omega] at this
theorem zUR (c:Sc)(i:Nat):((c.of i).2=0/\c.of i=(0,0))∨((c.of i).2=1∨(c.of i).2=2):=by
 unfold Sc.of;cases c.nd.vars[i]? with
 | none=>exact .inl ⟨rfl,rfl⟩
 | some v =>
   show ((c.own v).2=0/\c.own v=(0,0))∨((c.own v).2=1∨(c.own v).2=2);have h3:zaA v=0∨zaA v=1∨zaA v=2:=by
    unfold zaA;split
    . split
      . exact .inr (.inr rfl)
      exact .inr (.inl rfl)
    exact .inl rfl
   unfold Sc.own;split
   . exact .inl ⟨rfl,rfl⟩
   rename_i h;exact .inr (h3.resolve_left h)
theorem zUN (c:Sc){i:Nat}(h:(c.of i).2≠0):c.up (c.of i)=c.of (c.of i).1:=by unfold Sc.up;rw[zM2 ((zUR c i).resolve_left (λe=>h e.1))]
theorem zUk (c:Sc)(v:Nat):∀(m f p:Nat),itD (gC c) (m+1) p=some v->m<f->zhr c v f (c.of p)=true
 | m,0,p,_,hf=>by omega
 | 0,f+1,p,h,_=>by
   rw[itD] at h;obtain⟨j,h1,h2⟩:=Option.bind_eq_some_iff.1 h;cases h2;unfold gC at h1;split at h1
   . cases h1
   rename_i hz
   cases h1;rw[zhr,zM1 (λe=>hz (by rw[e])),zM2 rfl]
 | m+1,f+1,p,h,hf=>by
   rw[itD] at h;obtain⟨j,h1,h2⟩:=Option.bind_eq_some_iff.1 h;unfold gC at h1;split at h1
   . cases h1
   rename_i hz
   cases h1;rw[zhr,zM1 (λe=>hz (by rw[e]))];split
   . rfl
   rw[zUN c hz];exact zUk c v m f _ h2 (by omega)
theorem zUW (h:c.clocksL=[])(h16:c.nd.vars.length<=16)(i:Nat):itD (gC c) 17 i=none:=by
 unfold Sc.clocksL at h;rw[zM7] at h;have hno:=zTE h.1;have hlt:∀a b,gC c a=some b->b<c.nd.vars.length:=λa b hab=>by
  unfold gC Sc.of at hab;cases hv:c.nd.vars[a]? with
  | none=>rw[hv] at hab;rw[zM2 rfl] at hab;cases hab
  | some v =>
    have h0:=(zMJ.1 hv).1;rw[hv] at hab;unfold Sc.own at hab;simp only at hab;split at hab
    . cases hab
    cases hab
    show c.idx v.ck < _;unfold Sc.idx;cases hf:c.nd.find v.ck with
    | none=>show 0 < _;omega
    | some x=>have:=zgO hf;show x < _;omega
 by_cases hi:i<c.nd.vars.length
 . cases hx:itD (gC c) 17 i with
   | none=>rfl
   | some x =>
     exfalso;have hs:∀a,a<=17->∃x,itD (gC c) a i=some x:=λa ha=>by have e:itD (gC c) 17 i=(itD (gC c) a i).bind (itD (gC c) (17-a)):=(by rw[<- zI1,show a+(17-a)=17 by omega]);rw[hx] at e;obtain⟨y,hy,_⟩:=Option.bind_eq_some_iff.1 e.symm;exact⟨y,hy⟩
     obtain⟨a,b,hab,hb,he⟩:=zLV (n:=c.nd.vars.length) (f:=λa=>(itD (gC c) a i).getD 0) (λa ha=>by
      obtain⟨y,hy⟩:=hs a (by omega)
      show (itD (gC c) a i).getD 0 < _;rw[hy];exact zLY hlt hi hy)
     obtain⟨y,hy⟩:=hs a (by omega);obtain⟨z,hz⟩:=hs b (by omega);have hyz:y=z:=(by have:(itD (gC c) a i).getD 0=(itD (gC c) b i).getD 0:=he;rw[hy,hz] at this;exact this);subst hyz;have e:itD (gC c) ((b-a-1)+1) y=some y:=(by have e1:itD (gC c) b i=(itD (gC c) a i).bind (itD (gC c) (b-a)):=(by rw[<- zI1,show a+(b-a)=b by omega]);rw[hz,hy] at e1;rw[show b-a-1+1=b-a by omega];exact e1.symm);have hyl:=zLY hlt hi hy;have h1:=zUk c y (b-a-1) (2*c.nd.vars.length) y e (by omega);have h2:=hno y hyl;rw[Nat.zero_add] at h2;unfold Sc.comesBack at h2;rw[h1] at h2;cases h2
 have:gC c i=none:=by unfold gC Sc.of;rw[List.getElem?_eq_none (by omega)];rfl
 rw[itD,this];rfl
theorem zUO:∀(f i:Nat),itD (gC c) (f+1) i=none->c.nd.vars.length<=16->zfT c f (c.of i)
 | 0,i,h,_=>by
   rw[itD] at h;unfold gC at h
   show (c.of i).2=0;split at h
   . assumption
   simp[itD] at h
 | f+1,i,h,h16=>by
   rw[itD] at h;unfold gC at h
   show (c.of i).2=0∨_;split at h
   . left;assumption
   rename_i hz
   right;refine⟨?_,?_⟩
   . have:=(zTJ c i).resolve_left hz;omega
   rw[zUN c hz];exact zUO f _ h h16
theorem zTY (h:c.clocksL=[])(h16:c.nd.vars.length<=16)(f i:Nat)(hf:16<=f):zfT c f (c.of i):=by refine zUO f i ?_ h16;rw[show f+1=17+(f-16) by omega,zI1,zUW h h16 i];rfl
def PtN (c:Sc)(t:Tm)(k:Nat×Nat):Prop:=(∃q∈c.nd.eqs,t∈zaV za5 q.r)/\(k.2=0∨(k.1<=1000000/\zfT c 17 (c.up k)))
theorem zVl (hw:zeJ c.nd)(hn:c.namesL=[])(hc:c.clocksL=[]):PtC c 18 (PtN c):=by
 have h16:=hw.few;have hof:∀j,(c.of j).2=0∨((c.of j).1<=1000000/\zfT c 17 (c.up (c.of j))):=λj=>zTY hc h16 18 j (by omega);refine⟨λt k h=>?_,λt k h=>h.2,λt k h h4=>?_,λt k i u h _ hu=>?_,λt k x u l h h9 hts=>?_⟩
 . obtain⟨⟨q,hq,ht⟩,_⟩:=h;exact (hw.eqs q hq).2.2.1.vis ht
 . obtain⟨⟨q,hq,ht⟩,_⟩:=h;obtain⟨d,d1,_⟩:=zTT hn hq ht h4;exact⟨d,d1⟩
 . obtain⟨⟨q,hq,ht⟩,hk⟩:=h;refine⟨⟨q,hq,zTt _ ht (zTF (zML hu))⟩,?_⟩;unfold Sc.operand;split
   . exact hof _
   split
   . right;refine⟨by have:=zmN c t.s;show c.idx t.s<=_;omega,?_⟩;unfold Sc.up;rw[zM2 (by show (if 0<i then 2 else 1)=1∨(if 0<i then 2 else 1)=2;split <;> simp)];exact zTY hc h16 17 _ (by omega)
   exact hk
 obtain⟨⟨q,hq,ht⟩,hk⟩:=h;exact⟨⟨q,hq,zTt _ ht (zTF (by rw[hts];simp))⟩,hk⟩
theorem zVh:∀t:Tm,fbT t<=vz t:=by
 intro t;induction t using Tm.ind with
 | h k a s nm n ts ih =>
   have hl:∀l:List Tm,(∀u∈l,fbT u<=vz u)->fbL l<=vzL l:=by
    intro l;induction l with
    | nil=>intro _;rw[fbL];exact zMN _
    | cons u l ihl => intro h;have h1:=h u (zMS ..);have h2:=ihl (λx hx=>h x (zMX _ hx));rw[fbL,zys];omega
   have:=hl ts ih;rw[fbT,zBn];split <;> omega
end
theorem zUi:∀l:List Qn,fbQ l=(l.map λq=>fbT q.r).sum
 | []=>rfl
 | q::l=>by rw[fbQ,zUi l,List.map_cons,List.sum_cons]
theorem zUA {ns:List Nod}(h:zT7 ns)(hg:1201<=gas):∀(f k:Nat) (n:Nod),ns[k]?=some n->k<f->GdC 18 gas f ⟨ns.take k,n⟩
 | 0,k,n,_,hk=>by omega
 | f+1,k,n,hn,hk=>by
   have hnm:=zML hn;have hw:=h.wf n hnm;have hk6:=(zMJ.1 hn).1;have six:=h.six;have hsz:=h.sz n hnm;refine⟨⟨PtN _,⟨⟨λm hm=>h.wf m (List.mem_of_mem_take hm),hw,by show (ns.take k).length<=6;rw[List.length_take];omega⟩,?_,zVl hw (h.names k n hn) (h.clocks k n hn),λq hq=>⟨⟨q,hq,zTD _⟩,zTY (c:=⟨ns.take k,n⟩) (h.clocks k n hn) hw.few 18 _ (by omega)⟩,?_⟩⟩,λs d hd=>?_⟩
   . show n.eqs.length<=1000000;have:∀l:List Qn,l.length<=(l.map λq=>vz q.r).sum:=by
      intro l;induction l with
      | nil=>exact zMK _
      | cons q l ih =>
        have:1<=vz q.r:=by cases q.r;rw[zBn];omega
        simp only[List.map_cons,List.sum_cons,zMR];omega
     have:=this n.eqs;omega
   . rw[zUi];refine zMO (zTz (λq=>fbT q.r) _) (zMO ?_ (zMO hsz hg));have:∀l:List Qn,(l.map λq=>fbT q.r).sum<=(l.map λq=>vz q.r).sum:=by
      intro l;induction l with
      | nil=>exact zMK _
      | cons q l ih=>have:=zVh q.r;simp only[List.map_cons,List.sum_cons];omega
     exact this n.eqs
   obtain⟨i,n',hi,hn',rfl,_⟩:=zTO hd;exact zUA h hg f i n' hn' (by omega)
end
section
variable {ns:List Nod}
theorem zUl:∀l:List (Nat×Int),l.length<=zTl l
 | []=>zMK 0
 | i::l=>by have h:=zUl l;have:zTl (i::l)=zTl [i]+zTl l:=zTm [i] l;have h1:1<=zTl [i]:=(by unfold zTl zeF;simp);rw[this,zMR];omega
def zTs (gas:Nat)(pre:List Nod)(n:Nod):Cd:=zca 18 gas 6 ⟨pre,n⟩ 0 ((hdM ⟨pre,n⟩).add 0 1)
theorem zUV {pre:List Nod}{n:Nod}(h:zT7 ns)(hns:ns=pre++[n])(gas:Nat)(h60:MK ns pre.length<=60):zT5 (zTs gas pre n)/\BdK (zTs gas pre n)/\(zTs gas pre n).bools.length=n.ins:=by
 have hn:ns[pre.length]?=some n:=by rw[hns];simp
 have htk:ns.take pre.length=pre:=by rw[hns];simp
 have hl:pre.length<6:=by have:=h.six;rw[hns] at this;simp at this;omega
 have hw:=h.wf n (zML hn);have hb:=zTL h (gas:=gas) (fu:=18) (zMK _) 6 pre.length n hn hl h60 0 ((hdM ⟨pre,n⟩).add 0 1);rw[htk] at hb;obtain⟨K,hK⟩:∃K,zTs gas pre n=K:=⟨_,rfl⟩;unfold zTs at hK;rw[hK] at hb;unfold zTs;rw[hK];obtain⟨L,hs⟩:=hb;obtain⟨R,C,e1,e2,e3,e4,e5,e6⟩:=L.ex;have e1':K.row=[(0,1)]++R:=e1;have e2':K.cells=C:=by rw[e2];show []++C=C;simp
 have hbo:K.bools.length=n.ins:=by
  rw[L.bools]
  show ((n.vars.take n.ins).map (·.bl)).length=_;rw[List.length_map,List.length_take];have:=hw.io;omega
 have hou:K.outs=n.outs:=L.outs;have hs':n.vars.length+1<=K.slots:=by have:0+n.vars.length+1<=K.slots:=hs;omega
 have hs2:K.slots<=102:=by have:K.slots<=max 0 (0+17*(pre.length+1)):=L.s2;omega
 have hcl:K.cells.length<=60:=by rw[e2'];omega
 have P1:Pc K.slots K.cells.length 0 0 K.row:=by rw[e1'];exact (Pc.push (h:=0) (by omega)).app (e6 K.slots K.cells.length 0 (zMN _) (zMK _) (zMK _))
 have hby:zTl K.row<=9+(13300+13600*MK ns pre.length):=by rw[e1',zTm];have:=zTI 0 1;omega
 have io:=hw.io;have few:=hw.few;refine⟨⟨by omega,by omega,hcl,λx hx=>e3 x (by rw[<- e2'];exact hx),P1.ok,P1.fit,?_⟩,⟨?_,by omega⟩,hbo⟩
 . unfold zcx zhg zfl zgr;have h8:(K.cells.flatMap zct).length=8*K.cells.length:=by
    have:∀l:List Int,(l.flatMap zct).length=8*l.length:=by
     intro l;induction l with
     | nil=>rfl
     | cons x l ih=>rw[List.flatMap_cons,zMM,ih,zgR,zMR];omega
    exact this _
   simp only[zMM,zMR,zNb,List.length_map,h8];have:(K.row.flatMap zeF).length<=9+(13300+13600*MK ns pre.length):=hby;omega
 have:=zUl K.row;omega
theorem zUT (h:zbc ns=none):(∀c∈scs ns,c.namesL=[]/\c.clocksL=[])/\zfW ns [] 0<=60:=by
 unfold zbc at h;split at h
 . cases h
 rename_i h1
 split at h
 . cases h
 split at h
 . cases h
 rename_i h3
 split at h
 . cases h
 split at h
 . cases h
 split at h
 . cases h
 rename_i h6
 refine⟨λc hc=>⟨zgU (zlT h1) c hc,zgU (zlT h3) c hc⟩,?_⟩;have:=zlT h6;unfold zeZ at this;split at this
 . cases this
 omega
theorem zVi (h:zbc ns=none)(hwf:∀n∈ns,zeJ n)(h6:ns.length<=6)(hsz:∀n∈ns,n.terms.length<=1201)(hnm:∀n∈ns,∀q∈n.eqs,nmB q.r=true):zT7 ns/\(∀pre n,ns=pre++[n]->MK ns pre.length<=60):=by
 obtain⟨h1,h2⟩:=zUT h;refine⟨⟨hwf,h6,λn hn=>?_,hnm,λk n hk=>(h1 _ (zp9 hk)).1,λk n hk=>(h1 _ (zp9 hk)).2⟩,λpre n hns=>?_⟩
 . have:=hsz n hn;unfold Nod.terms at this;rw[List.length_flatMap] at this;exact this
 have hl:ns.length=pre.length+1:=by rw[hns];simp
 have:=zKS (ns:=ns) pre.length 0 0 (by omega);rw[List.drop_zero] at this;rw[show mmF ns 0=[] from rfl] at this;rw[show pre.length=ns.length-1 by omega,<- this];exact h2
end
section
theorem zAc {r17 r18:Fn}(e17:r17=(lev 17).ex)(e18:r18=(lev 18).ex)(g17:zv 17 r17)(g18:zv 18 r18){g:Nat}{src:Xb}(hs:src.size<=1200){R:St×List Nd}(hR:zgo r17 r18 g src=R)(he:R.1.er=0) :
 (∀d∈R.2,NdR d/\NdP d)/\R.2.length<=6/\∃ns,ze5 R.2 ns/\(∀n∈ns,zeJ n)/\∀n∈ns,n.terms.length<=1201:=by
 have z17:ZK r17:=by rw[e17];exact (zCG 17).1
 have z18:ZK r18:=by rw[e18];exact (zCG 18).1
 have s17:PoD 17 r17:=by rw[e17];exact (zJe 17).1
 have s18:PoD 18 r18:=by rw[e18];exact (zJe 18).1
 obtain⟨a17,x17⟩:=zEG e17;obtain⟨a18,x18⟩:=zEG e18;have hI:Inv 0 (⟨src,zZ src 0,0,0,0,[]⟩:St):=zmc hs;subst hR;have k1:=zE2 z17 z18 (g:=g) hs;have k2:=zCh a17 a18 x17 x18 g17 g18 g src hI he;have k3:=zLj s17 s18 g17 g18 g src hI he;obtain⟨ns,h1,h2⟩:=zF1 (λd hd=>zK7 (k3 d hd));exact⟨λd hd=>⟨⟨k1 d hd,k2 d hd,zK7 (k3 d hd)⟩,k3 d hd⟩,zDZ r17 r18 g src,ns,h1,zGg a17 a18 x17 x18 g17 g18 hs he h1,h2⟩
end
section
open Go.RowKit
theorem zFQ {L:List Ex}(hS:∀e∈L,exS e){x:Nat}{t:Tm}(h:zeA L x t):nmB t=true:=by
 induction h with
 | mk x ex ts hx hl hr ih =>
   have hex:=hS ex (zML hx);have hv:zbF ex.op.toList ex.n<=9223372036854775807:=(by unfold zbF;split;exact hex.1;exact zMN _);have hts:∀ts':List Tm,(∀u∈ts',nmB u=true)->nmL ts'=true:=by
    intro ts';induction ts' with
    | nil=>intro _;rfl
    | cons u l ih2=>intro hu;rw[nmL,hu u (zMS ..),ih2 (λy hy=>hu y (zMX _ hy))];rfl
   rw[nmB,decide_eq_true hv,hts ts (λu hu=>?_)]
   . rfl
   obtain⟨i,hi⟩:=List.mem_iff_getElem?.1 hu;have hil:=(zMJ.1 hi).1;exact ih i _ u (zsc (show i<ex.ins.length by omega)) hi
end
section
open Go.RowKit
variable {r17 r18:Fn}
structure zVd (ds:List Nd) (ns:List Nod):Prop where
 of:ze5 ds ns
 wf:∀n∈ns,zeJ n
 nm:∀n∈ns,∀q∈n.eqs,nmB q.r=true
 one:1<=ns.length
 few:ns.length<=6
 tms:∀n∈ns,n.terms.length<=1201
theorem zUI:∀{l:List Nd} {ns:List Nod},ze5 l ns->∀n∈ns,∃d∈l,zo6 d n:=by
 intro l;induction l with
 | nil=>rintro ns rfl n h;cases h
 | cons d l ih =>
   rintro ns ⟨n0,l',rfl,hn,hl⟩ n h;rcases zNa.1 h with rfl|h
   . exact⟨d,zMS ..,hn⟩
   obtain⟨d2,h1,h2⟩:=ih hl n h;exact⟨d2,zMX _ h1,h2⟩
theorem zUS {L:List Ex}:∀{l:List Eqn} {qs:List Qn},zge L l qs->∀q∈qs,∃x,zeA L x q.r:=by
 intro l;induction l with
 | nil=>rintro qs rfl q h;cases h
 | cons q0 l ih =>
   rintro qs ⟨q',l',rfl,hq,hl⟩ q h;rcases zNa.1 h with rfl|h
   . exact⟨_,hq.r⟩
   exact ih hl q h
theorem zTG {g:Nat}:∀(f:Nat) (x:St×List Nd),1<=x.2.length->1<=(zdZ r17 r18 g f x).2.length
 | 0,_,h=>h
 | f+1,x,h=>by
   unfold zdZ;split
   . exact zTG f _ (by simp)
   exact h
theorem zUp (r17 r18:Fn)(g:Nat)(s:Xb):1<=(zgo r17 r18 g s).2.length:=by unfold zgo;exact zTG g _ (by simp)
theorem zVk (e17:r17=(lev 17).ex)(e18:r18=(lev 18).ex)(g17:zv 17 r17)(g18:zv 18 r18){src:Xb}(hs:src.size<=1200){R:St×List Nd}(hR:zgo r17 r18 1300 src=R)(he:R.1.er=0):∃ns,zVd R.2 ns:=by have h1:=zUp r17 r18 1300 src;rw[hR] at h1;obtain⟨f1,f2,ns,f3,f4,f5⟩:=zAc e17 e18 g17 g18 hs hR he;clear hR e17 e18 g17 g18;have hl:=f3.len;refine⟨ns,f3,f4,λn hn q hq=>?_,by omega,by omega,f5⟩;obtain⟨d,hd,hnd⟩:=zUI f3 n hn;obtain⟨x,hx⟩:=zUS hnd.eqs q hq;exact zFQ (f1 d hd).1.s.exs hx
end
section
open Go.RowKit
structure zlL (src:Xb) (c:Cd):Prop where
 ex:∃pre n fu gas f K,zlK src (pre++[n])/\zl2 fu gas f pre n K/\zcR (zcw (zcx K))=some c
 ok:zlx c
 fit:zd9 c.slots c.cells.length 0 c.row=some 0
theorem znW (l:Xn)(h:∀x∈l,x<256):∀x∈zcw l,x<256:=by
 intro x hx;rcases zMY.1 hx with hx|hx
 . exact h x hx
 exact zgs _ x hx
theorem zTH (S:Xs)(src:Xb)(c:Cd)(h:zlL src c)(w:Xw)(hG:Gl S w)(hop:zbt w)(hS:zbW w) :
 xK 4 #[.string src] w (λe w'=>∃(m:Ma) (sv:Xv),e=.returned (xP m.M)/\MM w' m sv c c.cells (List.replicate c.slots 0)/\w.heap.size<=m.N/\xB w w'/\∀k,m.own sv k->w.heap.size<=k):=by
 obtain⟨pre,n,fu,gas,f,K,hF,hC,hU⟩:=h.ex;have HCo:=za (zlg S src pre n hF fu gas f K hC w hG hop hS);have hlt:=znW _ (zjc K hC.ops);have hlen:(zcw (zcx K)).length=(zcx K).length+8:=by unfold zcw;rw[zMM,zgR]
 obtain⟨l,hl⟩:∃l,l=zcw (zcx K):=⟨_,rfl⟩;rw[<- hl] at HCo hU hlt hlen;have hne:l≠[]:=by intro e;rw[e] at hlen;simp at hlen
 have HLo:=za (λW (HB1:xB w W) v B (hR:BR B W v l)=>(by
  obtain⟨g,hy⟩:=hR.by hlt;obtain⟨x,cp,e,_⟩:=hy.ex;subst e
  exact zUE S x cp g l c h.ok hU W (hG.of (T:=λ_=>False) (Fr.of_below HB1) (λ_ e=>e.elim)) (hS.old (zm HB1 (zMK _)) hG.size) hy (hy.lt' hne) :
   xK 10 #[v] W (λe w'=>∃(m:Ma) (sv:Xv),e=.returned (.tuple #[xP m.M,xI 0])/\MM w' m sv c c.cells (List.replicate c.slots 0)/\W.heap.size<=m.N/\xB W w'/\∀k,m.own sv k->W.heap.size<=k)))
 go_enter func4,ntmps4
 go_wp2_with (first
  | (go_at_call 10;revert HR1;intro HR1;refine (HLo.o w1 HB1 _ _ HR1.o).mono ?_;rintro e w2 ⟨m,sv,rfl,HM,hN,hB2,how⟩;have How:=za how;clear how;have HB2:=za (HB1.trans (hB2.mono hz1)))
  | (go_at_call 9;refine HCo.o.mono ?_;rintro e w1 ⟨v1,B,rfl,hR,hB0,HB1⟩;have hz1:=HB1.size;have HR1:=za hR))
 go_ret;exact⟨m,sv,rfl,HM,by omega,HB2.o,λk e=>zMO hz1 (How.o k e)⟩
theorem zkS (S:Xs)(src:Xb)(c:Cd)(h:zlL src c)(w:Xw)(hG:Gl S w)(hop:zbt w)(hS:zbW w) :
 xK 4 #[.string src] w (λe w'=>∃(m:Ma) (sv:Xv),e=.returned (xP m.M)/\MM w' m sv c c.cells (List.replicate c.slots 0)/\w.heap.size<=m.N/\xB w w') :=
 (zTH S src c h w hG hop hS).mono (λ_ _ ⟨m,sv,h1,h2,h3,h4,_⟩=>⟨m,sv,h1,h2,h3,h4⟩)
def odd (x:Int):Bool:=x.tmod 2 != 0
theorem zjr (x:Int)(_hx:-9223372036854775808<=x/\x<=9223372036854775807)(w:Xw):xK 6 #[xI x] w (λe w'=>e=.returned (.bool (odd x))/\w=w'):=by go_enter func6,ntmps6;go_wp2_with fail;go_ret;exact⟨rfl,rfl⟩
def zbV (b:Bool):Int:=if b then 1 else 0
theorem zcm (b:Bool)(w:Xw):xK 8 #[.bool b] w (λe w'=>e=.returned (xI (zbV b))/\w=w'):=by
 cases b
 all_goals
  go_enter func8,ntmps8;go_wp2_with fail;go_ret;exact⟨rfl,rfl⟩
structure zUD (src:Xb) (ns pre:List Nod) (n:Nod) (gas:Nat):Prop where
 eq:ns=pre++[n]
 fix:zlK src (pre++[n])
 code:zl2 18 gas 6 pre n (zTs gas pre n)
 rt:zT5 (zTs gas pre n)
 bo:1<=(zTs gas pre n).bools.length
theorem zVe {r17 r18:Fn}(e17:r17=(lev 17).ex)(e18:r18=(lev 18).ex){gas:Nat}(hg:1201<=gas)(hg2:gas<=1000000){src:Xb}(hs:src.size<=1200){R:St×List Nd}(hR:zgo r17 r18 1300 src=R)(he:R.1.er=0){ns:List Nod}(hA:zVd R.2 ns)(hc:zbc ns=none):∃pre n,zUD src ns pre n gas:=by
 obtain⟨h1,h2⟩:=zVi hc hA.wf hA.few hA.tms hA.nm;have hne:ns≠[]:=by intro e;have:=hA.one;rw[e] at this;simp at this
 have hdl:=List.dropLast_concat_getLast hne;refine⟨ns.dropLast,ns.getLast hne,hdl.symm,?_,?_,?_,?_⟩
 . rw[hdl];rw[e17,e18] at hR;exact⟨hs,⟨R,hR,he,by have:=hA.of.len;have:=hA.few;omega,hA.of⟩,hA.wf,λn hn=>zMO (hA.tms n hn) (by decide),hc⟩
 all_goals
  obtain⟨k1,k2,k3⟩:=zUV h1 hdl.symm gas (h2 _ _ hdl.symm)
 . have hn:ns[ns.dropLast.length]?=some (ns.getLast hne):=by rw[List.length_dropLast,List.getLast_eq_getElem];exact zsc _
   have hgd:=zUA h1 (gas:=gas) hg 6 ns.dropLast.length _ hn (by have:=hA.few;have:=hA.one;rw[List.length_dropLast];omega);have htk:ns.take ns.dropLast.length=ns.dropLast:=(by rw[List.length_dropLast,List.dropLast_eq_take]);rw[htk] at hgd;have hsl:=k1.slots;have hou:=k1.outs;refine⟨rfl,hg2,by decide,hgd,by omega,by have:=k1.few;omega,k2.1,λi hi=>?_⟩;obtain⟨sh,hsh,_⟩:=k1.row i hi;exact zeB hsh
 . exact k1
 rw[k3];exact (hA.wf _ (List.getLast_mem hne)).ins
end
section
theorem zFs {ns:List Nod}{k p:Nat}(h:zbc ns=some (k,p)):4<=k/\k<=9:=by
 unfold zbc at h;repeat (split at h;· cases h;omega)
 cases h
theorem zNJ (t:Tm):(eT t).k=t.k:=by cases t;rw[eT];rfl
structure QnE (q' q:Qn):Prop where
 ns:q'.ns=q.ns
 r:eT q'.r=eT q.r
structure zQF (n' n:Nod):Prop where
 nm:n'.nm=n.nm
 ins:n'.ins=n.ins
 outs:n'.outs=n.outs
 vars:n'.vars.map eV=n.vars.map eV
 len:n'.eqs.length=n.eqs.length
 eqs:∀(i:Nat) (q' q:Qn),n'.eqs[i]?=some q'->n.eqs[i]?=some q->QnE q' q
def zPp (l' l:List Nod):Prop:=l'.length=l.length/\∀(i:Nat) (n' n:Nod),l'[i]?=some n'->l[i]?=some n->zQF n' n
end
section
def eQ (q:Qn):Qn:=⟨q.ns,q.ns.map (λ_=>0),0,eT q.r⟩
def eN (n:Nod):Nod:=⟨n.nm,0,n.vars.map eV,n.ins,n.outs,n.eqs.map eQ⟩
def eS (c:Sc):Sc:=⟨c.er.map eN,eN c.nd⟩
theorem zNp {α β:Type}{e:α->β}{f:α->List Nat}{g:β->List Nat}:∀l:List α,(∀x∈l,(g (e x)).length=(f x).length)->((l.map e).flatMap g).length=(l.flatMap f).length
 | [],_=>rfl
 | x::l,h=>by rw[List.map_cons,List.flatMap_cons,List.flatMap_cons,zMM,zMM,h x (zMS ..),zNp l (λy hy=>h y (zMX _ hy))]
theorem zOj {α β γ:Type}{e:α->β}{f:α->List γ}{g:β->List γ}:∀l:List α,(∀x∈l,g (e x)=f x)->(l.map e).flatMap g=l.flatMap f
 | [],_=>rfl
 | x::l,h=>by rw[List.map_cons,List.flatMap_cons,List.flatMap_cons,h x (zMS ..),zOj l (λy hy=>h y (zMX _ hy))]
theorem zNu {b b':Bool}{p p':Nat}(h:b=b'):(if b=true then [p] else []).length=(if b'=true then [p'] else []).length:=by subst h;cases b <;> rfl
theorem zQc (s:Xb):∀(l:List Vr) (i:Nat),zfj s (l.map eV) i=zfj s l i
 | [],_=>rfl
 | v::l,i=>by show (if (eV v).nm=s then some i else zfj s (l.map eV) (i+1))=(if v.nm=s then some i else zfj s l (i+1));rw[zQc s l];rfl
theorem zPy (n:Nod)(s:Xb):(eN n).find s=n.find s:=zQc s n.vars 0
theorem zQf (s:Xb):∀(l:List Nod) (i:Nat),zgg s (l.map eN) i=zgg s l i
 | [],_=>rfl
 | v::l,i=>by show (if (eN v).nm=s then some i else zgg s (l.map eN) (i+1))=(if v.nm=s then some i else zgg s l (i+1));rw[zQf s l];rfl
section
variable (c:Sc)
theorem zNB (s:Xb):(eS c).idx s=c.idx s:=by unfold Sc.idx;rw[show (eS c).nd=eN c.nd from rfl,zPy]
theorem zQI (s:Xb):(eS c).has s=c.has s:=by unfold Sc.has;rw[show (eS c).nd=eN c.nd from rfl,zPy]
theorem zNK (s:Xb):(eS c).called s=(c.called s).map eS:=by
 unfold Sc.called;rw[show (eS c).er=c.er.map eN from rfl,zQf];cases zgg s c.er 0 with
 | none=>rfl
 | some i =>
   simp only[List.getElem?_map];cases c.er[i]? with
   | none=>rfl
   | some n=>simp only[Option.map_some];rw[<- List.map_take];rfl
theorem zRe (i:Nat):(eS c).nd.vars[i]?=(c.nd.vars[i]?).map eV:=by rw[show (eS c).nd.vars=c.nd.vars.map eV from rfl,List.getElem?_map]
theorem zPF:(eS c).nd.vars.length=c.nd.vars.length:=by rw[show (eS c).nd.vars=c.nd.vars.map eV from rfl,List.length_map]
theorem zSW:(eS c).nd.ins=c.nd.ins:=rfl
end
mutual
theorem zRz:∀t:Tm,szT (eT t)=szT t
 | .mk k a s nm n ts=>by rw[eT,szT,szT,zRY ts]
theorem zRY:∀ts:List Tm,szL (eL ts)=szL ts
 | []=>by rw[eL]
 | t::l=>by rw[eL,szL,szL,zRz t,zRY l]
end
theorem zN1 (t:Tm):(eT t).s=t.s:=by cases t;rw[eT];rfl
theorem zQP (t:Tm):(eT t).ts=t.ts.map eT:=by cases t;rw[eT];exact zNC _
mutual
theorem zOW {g:Tm->Bool}(hg:∀t,g (eT t)=g t):∀t:Tm,zaV g (eT t)=(zaV g t).map eT
 | .mk k a s nm n ts=>by have h:=hg (.mk k a s nm n ts);rw[eT] at h ⊢;rw[zaV,zaV,h,List.map_cons,eT,zRj hg ts];split <;> rfl
theorem zRj {g:Tm->Bool}(hg:∀t,g (eT t)=g t):∀ts:List Tm,zdk g (eL ts)=(zdk g ts).map eT
 | []=>by rw[eL];rfl
 | t::l=>by rw[eL,zdk,zdk,List.map_append,zOW hg t,zRj hg l]
end
theorem zQJ (t:Tm):za5 (eT t)=za5 t:=rfl
theorem zSM (t:Tm):zak (eT t)=zak t:=by unfold zak;rw[zNJ]
theorem zSt (c:Sc)(t:Tm)(u:Nat):(eS c).fits (eT t) u=c.fits t u:=by unfold Sc.fits;rw[zN1,zNK,zQP,List.length_map];cases c.called t.s <;> rfl
theorem zOJ (c:Sc):∀(l:List Vr) (i:Nat),(zat (eS c) (l.map eV) i).length=(zat c l i).length
 | [],_=>rfl
 | v::l,i=>by
   rw[List.map_cons,zat,zat,zMM,zMM,zMM,zMM,zOJ c l (i+1),show (eS c).nd=eN c.nd from rfl,zPy,zQI];refine congrArg (·+_) (congr (congrArg _ ?_) ?_)
   . show (if (c.nd.find v.nm).getD 0<i then [0] else []).length=_;split <;> rfl
   exact zNu rfl
theorem zOv (c:Sc):∀(ns:Xl) (ps:Xn),ps.length=ns.length->(z7 (eS c) ns (ns.map (λ_=>0))).length=(z7 c ns ps).length
 | [],[],_=>rfl
 | s::ns,p::ps,h=>by rw[List.map_cons,z7,z7,zMM,zMM,zOv c ns ps (by simpa using h),zQI,zNB,zSW];exact congrArg (·+_) (zNu rfl)
theorem zP0 (c:Sc)(q:Qn)(t:Tm):(zaL (eS c) (eQ q) (eT t)).length=(zaL c q t).length:=by
 have hu:zda (eQ q) (eT t)=zda q t:=by unfold zda;rw[zRz,show (eQ q).r=eT q.r from rfl,zRz];rfl
 unfold zaL;rw[hu,zNJ,zN1,zQI,zSt,zMM,zMM];exact congr (congrArg _ (zNu rfl)) (zNu rfl)
def zOg (n:Nod):Prop:=∀q∈n.eqs,q.ps.length=q.ns.length
theorem zRA (c:Sc)(h:zOg c.nd):(eS c).namesL.length=c.namesL.length:=by
 unfold Sc.namesL;rw[zMM,zMM,zMM,zMM,zMM,zMM];refine congr (congrArg _ (congr (congrArg _ (congr (congrArg _ ?_) ?_)) ?_)) ?_
 . refine zNu ?_;rw[zNK]
   show ((c.called c.nd.nm).map eS).isSome=_;cases c.called c.nd.nm <;> rfl
 . exact zOJ c c.nd.vars 0
 . exact zNp c.nd.eqs (λq hq=>zOv c q.ns q.ps (h q hq))
 refine zNp c.nd.eqs (λq _=>?_);rw[show (eQ q).r=eT q.r from rfl,zOW zQJ];exact zNp _ (λt _=>zP0 c q t)
end
section
section
variable (c:Sc)
theorem zOb (s:Xb):(eS c).decl s=c.decl s:=by unfold Sc.decl;rw[zNB,zRe];cases c.nd.vars[c.idx s]? <;> rfl
theorem zPk (n:Nod):(eN n).results=n.results.map eV:=by unfold Nod.results;rw[List.map_take,List.map_drop];rfl
theorem zRE (s:Xb):(eS c).callTy s=c.callTy s:=by
 unfold Sc.callTy;rw[zNK];cases c.called s with
 | none=>rfl
 | some d => show (((eN d.nd).results[0]?).map tyV).getD 0=((d.nd.results[0]?).map tyV).getD 0;rw[zPk,List.getElem?_map];cases d.nd.results[0]? <;> rfl
mutual
theorem zOk:∀t:Tm,zaj (eS c) (eT t)=zaj c t
 | .mk k a s nm n ts=>by rw[eT,zaj,zaj,zOb,zRE,zNL ts 0,zNL ts 1]
theorem zNL:∀(ts:List Tm) (i:Nat),zbh (eS c) (eL ts) i=zbh c ts i
 | [],i=>by rw[eL,zbh,zbh]
 | t::l,0=>by rw[eL,zbh,zbh,zOk t]
 | t::l,i+1=>by rw[eL,zbh,zbh,zNL l i]
end
theorem zO2 (ty:Nat)(l:List Tm):zcv (eS c) ty (l.map eT)=zcv c ty l:=by
 unfold zcv;rw[List.all_map];congr 1;funext t
 show (zaj (eS c) (eT t)==ty)=_;rw[zOk]
theorem zPh (l:List Tm):zc9 (eS c) (l.map eT)=zc9 c l:=by unfold zc9;rw[<- zNC,zNL,zNL]
theorem zRb (t:Tm):zcG (eT t)=zcG t:=by
 unfold zcG;rw[zNJ,zQP];cases t.ts with
 | nil=>rfl
 | cons u l=>simp only[List.map_cons];rw[zNJ]
theorem zOr:∀(l:List Tm) (vs:List Vr),zaQ (eS c) (l.map eT) (vs.map eV)=zaQ c l vs
 | [],vs=>by rw[List.map_nil,zaQ,zaQ]
 | t::l,[]=>rfl
 | t::l,v::vs=>by rw[List.map_cons,List.map_cons,zaQ,zaQ,zOk,zOr l vs];rfl
theorem zQB (t:Tm):(eS c).operands (eT t)=c.operands t:=by
 unfold Sc.operands;rw[zNJ,zQP,zN1,zO2,zO2,zPh,<- List.map_take,<- List.map_drop,zO2,zPh,zNK];congr 1;congr 1;congr 1;congr 1;congr 1
 . cases t.ts with
   | nil=>rfl
   | cons u l=>simp only[List.map_cons];rw[zRb]
 congr 1;cases c.called t.s with
 | none=>rfl
 | some d=>exact zOr c t.ts d.nd.vars
theorem zOw:∀(ns:Xl) (vs:List Vr),zaE (eS c) ns (vs.map eV)=zaE c ns vs
 | [],vs=>by cases vs <;> rfl
 | s::ns,[]=>rfl
 | s::ns,v::vs=>by rw[List.map_cons,zaE,zaE,zOb,zOw ns vs];rfl
theorem zSg (q:Qn):(eS c).holds (eQ q)=c.holds q:=by
 unfold Sc.holds;rw[show (eQ q).ns=q.ns from rfl,show (eQ q).r=eT q.r from rfl,zN1,zNK];split
 . rw[zOb,zOk]
 cases c.called q.r.s with
 | none=>rfl
 | some d => show zaE (eS c) _ (eN d.nd).results=_;rw[zPk,zOw]
theorem zOH:∀l:List Vr,(zau (eS c) (l.map eV)).length=(zau c l).length
 | []=>rfl
 | v::l=>by rw[List.map_cons,zau,zau,zMM,zMM,zOH l,zOb];exact congrArg (·+_) (zNu rfl)
theorem zP1 (t:Tm):(zbQ (eS c) (eT t)).length=(zbQ c t).length:=by unfold zbQ;rw[zNJ,zN1,zOb,zQB,zMM,zMM];refine congr (congrArg _ (zNu rfl)) ?_;cases c.operands t <;> rfl
theorem zRu:(eS c).typesL.length=c.typesL.length:=by
 unfold Sc.typesL;rw[zMM,zMM,zMM,zMM];refine congr (congrArg _ (congr (congrArg _ (zOH c c.nd.vars)) ?_)) ?_
 . refine zNp c.nd.eqs (λq _=>?_);rw[zSg];cases c.holds q <;> rfl
 refine zNp c.nd.eqs (λq _=>?_);rw[show (eQ q).r=eT q.r from rfl,zOW zQJ];exact zNp _ (λt _=>zP1 c t)
theorem zSQ (v:Vr):(eS c).own (eV v)=c.own v:=by unfold Sc.own;rw[zNB];rfl
theorem zOB (i:Nat):(eS c).of i=c.of i:=by
 unfold Sc.of;rw[zRe];cases c.nd.vars[i]? with
 | none=>rfl
 | some v=>exact zSQ c v
theorem zST (k:Nat×Nat):(eS c).up k=c.up k:=by unfold Sc.up;rw[zOB]
theorem zQg (i:Nat):∀(f:Nat) (k:Nat×Nat),zhr (eS c) i f k=zhr c i f k
 | 0,_=>rfl
 | f+1,k=>by rw[zhr,zhr,zST,zQg i f]
theorem zSi (i:Nat):(eS c).comesBack i=c.comesBack i:=by unfold Sc.comesBack;rw[zPF,zOB,zQg]
theorem zOy:∀(l:List Vr) (i:Nat),(zbv (eS c) (l.map eV) i).length=(zbv c l i).length
 | [],_=>rfl
 | v::l,i=>by rw[List.map_cons,zbv,zbv,zMM,zMM,zOy l (i+1),zSi];exact congrArg (·+_) (zNu rfl)
theorem zOa (k:Nat×Nat):∀(ns:Xl) (ps:Xn),ps.length=ns.length->(zbl (eS c) k ns (ns.map (λ_=>0))).length=(zbl c k ns ps).length
 | [],[],_=>rfl
 | s::ns,p::ps,h=>by rw[List.map_cons,zbl,zbl,zMM,zMM,zOa k ns ps (by simpa using h),zNB,zOB];refine congrArg (·+_) ?_;split <;> rfl
theorem zQ5 (t:Tm)(i:Nat)(k:Nat×Nat):(eS c).operand (eT t) i k=c.operand t i k:=by unfold Sc.operand;rw[zNJ,zN1,zNB,zOB]
theorem zSF (t:Tm)(k:Nat×Nat):((eS c).isOn (eT t) k).1.length=(c.isOn t k).1.length/\((eS c).isOn (eT t) k).2=(c.isOn t k).2:=by
 unfold Sc.isOn;rw[zNJ,zN1,zNB,zOB]
 repeat' split
 all_goals exact⟨rfl,rfl⟩
mutual
theorem zRS:∀(t:Tm) (k:Nat×Nat),(onT (eS c) (eT t) k).length=(onT c t k).length
 | .mk x a s nm n ts,k=>by
   obtain⟨h1,h2⟩:=zSF c (.mk x a s nm n ts) k;have h3:=zRW (.mk x a s nm n ts) k ts 0;rw[eT] at h1 h2 h3 ⊢;rw[onT,onT,zMM,zMM,h1,h2];refine congrArg _ ?_;split
   . exact h3
   rfl
theorem zRW (t:Tm)(k:Nat×Nat):∀(ts:List Tm) (i:Nat),(onL (eS c) (eT t) k (eL ts) i).length=(onL c t k ts i).length
 | [],i=>by rw[eL,onL,onL]
 | u::l,i=>by rw[eL,onL,onL,zMM,zMM,zQ5,zRS u,zRW t k l (i+1)]
end
theorem zQC (q:Qn)(h:q.ps.length=q.ns.length):(zer (eS c) (eQ q)).length=(zer c q).length:=by unfold zer;rw[show (eQ q).ns=q.ns from rfl,show (eQ q).r=eT q.r from rfl,show (eQ q).ps=q.ns.map (λ_=>0) from rfl,<- List.map_tail,zNB,zOB];simp only[zMM];rw[zOa c _ q.ns.tail q.ps.tail (by rw[List.length_tail,List.length_tail,h]),zRS]
theorem zQU (h:zOg c.nd):(eS c).clocksL.length=c.clocksL.length:=by unfold Sc.clocksL;rw[zMM,zMM];exact congr (congrArg _ (zOy c c.nd.vars 0)) (zNp c.nd.eqs (λq hq=>zQC c q (h q hq)))
end
end
section
variable {l l' ns:List Nod}
section
variable (c:Sc)
theorem zOU:∀(ns:Xl) (ps:Xn) (d:Xk),ps.length=ns.length->(zaC (eS c) ns (ns.map (λ_=>0)) d).1.length=(zaC c ns ps d).1.length/\(zaC (eS c) ns (ns.map (λ_=>0)) d).2=(zaC c ns ps d).2
 | [],[],d,_=>⟨rfl,rfl⟩
 | s::ns,p::ps,d,h=>by rw[List.map_cons,zaC,zaC,zNB];obtain⟨h1,h2⟩:=zOU ns ps (d.set (c.idx s) true) (by simpa using h);refine⟨?_,h2⟩;rw[zMM,zMM,h1];exact congrArg (·+_) (zNu rfl)
theorem zPP:∀(l:List Qn) (d:Xk),(∀q∈l,q.ps.length=q.ns.length)->(zcN (eS c) (l.map eQ) d).1.length=(zcN c l d).1.length/\(zcN (eS c) (l.map eQ) d).2=(zcN c l d).2
 | [],d,_=>⟨rfl,rfl⟩
 | q::l,d,h=>by obtain⟨h1,h2⟩:=zOU c q.ns q.ps d (h q (zMS ..));rw[List.map_cons,zcN,zcN,show (eQ q).ns=q.ns from rfl,show (eQ q).ps=q.ns.map (λ_=>0) from rfl,h2];obtain⟨h3,h4⟩:=zPP l (zaC c q.ns q.ps d).2 (λq hq=>h q (zMX _ hq));refine⟨?_,h4⟩;rw[zMM,zMM,h1,h3]
theorem zPj (ins:Nat)(d:Xk):∀(l:List Vr) (i:Nat),(zb1 ins d (l.map eV) i).length=(zb1 ins d l i).length
 | [],_=>rfl
 | v::l,i=>by rw[List.map_cons,zb1,zb1,zMM,zMM,zPj ins d l (i+1)];exact congrArg (·+_) (zNu rfl)
theorem zQz (h:zOg c.nd):(eS c).definesL.length=c.definesL.length:=by unfold Sc.definesL;rw[zPF,show (eS c).nd.eqs=c.nd.eqs.map eQ from rfl];obtain⟨h1,h2⟩:=zPP c c.nd.eqs (List.replicate c.nd.vars.length false) h;simp only;rw[zMM,zMM,h1,h2];exact congrArg _ (zPj _ _ c.nd.vars 0)
theorem zQT (i:Nat)(t:Tm):zcO (eS c) i (eT t)=zcO c i t:=by unfold zcO;rw[zNJ,zN1,zNB]
theorem zQv (q:Qn)(s:Xb):zaO (eS c) (eQ q) s=zaO c q s:=by unfold zaO;simp only;rw[zNB,zOB,show (eQ q).r=eT q.r from rfl,zOW zSM,zOj _ (λt _=>zQT c (c.idx s) t)]
theorem zRx:(eS c).linksL=c.linksL:=by
 unfold Sc.linksL;refine zOj c.nd.eqs (λq _=>?_)
 show q.ns.flatMap (zaO (eS c) (eQ q))=_;rw[List.flatMap_def,List.flatMap_def];exact congrArg _ (List.map_congr_left (λs _=>zQv c q s))
theorem zPA (a b:Nat)(L:List (Nat×Nat))(n:Nat):∀m:Nat,(zht a L n m).length=(zht b L n m).length
 | 0=>rfl
 | m+1=>by rw[zht,zht,zMM,zMM,zPA a b L n m];refine congrArg (·+_) ?_;split <;> rfl
theorem zQ3:(eS c).causesL.length=c.causesL.length:=by unfold Sc.causesL;rw[zRx,zPF];exact zPA _ _ _ _ _
end
theorem zR2 (n:Nod)(m:List (ByteArray×Nat)):zcg (eN n) m=zcg n m:=by
 unfold zcg;have:((eN n).eqs.flatMap λq=>zaV za5 q.r)=(n.eqs.flatMap λq=>zaV za5 q.r).map eT:=by rw[List.map_flatMap];exact zOj n.eqs (λq _=>zOW zQJ q.r)
 rw[this,List.map_map];refine congrArg (λl=>min (zed l) 61) (List.map_congr_left (λt _=>?_))
 show za9 m (eT t)=_;unfold za9;rw[zNJ,zN1]
theorem zRR:∀(l:List Nod) (m:List (ByteArray×Nat)) (k:Nat),zfW (l.map eN) m k=zfW l m k
 | [],_,_=>rfl
 | n::l,m,k=>by rw[List.map_cons,zfW,zfW,zR2];exact zRR l _ _
theorem zSP (ns:List Nod):scs (ns.map eN)=(scs ns).map eS:=by
 unfold scs;rw[List.map_filterMap,List.length_map];refine congrArg (λf=>List.filterMap f (List.range ns.length)) (funext λi=>?_);rw[List.getElem?_map];cases ns[i]? with
 | none=>rfl
 | some n=>simp only[Option.map_some];rw[<- List.map_take];rfl
theorem zRf {l l':Xn}(h:l.length=l'.length):(zO l).isSome=(zO l').isSome:=by
 cases e:zO l with
 | none =>
   have h1:=zlT e;subst h1;cases l' with
   | nil=>rfl
   | cons a b=>simp at h
 | some p =>
   cases e':zO l' with
   | none =>
     have h1:=zlT e';subst h1;cases l with
     | nil=>cases e
     | cons a b=>simp at h
   | some q=>rfl
theorem zNU {F:Sc->List Nat}(h:∀c∈scs ns,(F (eS c)).length=(F c).length):(zO ((scs (ns.map eN)).flatMap F)).isSome=(zO ((scs ns).flatMap F)).isSome:=by rw[zSP];exact zRf (zNp _ h)
def zNF (ns:List Nod):Nat:=match zbc ns with|none=>0|some p=>p.1
theorem zOF (ns:List Nod):zNF ns=if (zO ((scs ns).flatMap Sc.namesL)).isSome then 4 else if (zO ((scs ns).flatMap Sc.typesL)).isSome then 5 else if (zO ((scs ns).flatMap Sc.clocksL)).isSome then 6 else if (zO ((scs ns).flatMap Sc.definesL)).isSome then 7 else if (zO ((scs ns).flatMap Sc.causesL)).isSome then 8 else if (zO (zeZ ns)).isSome then 9 else 0:=by
 unfold zNF zbc;cases zO ((scs ns).flatMap Sc.namesL) with
 | some p=>rfl
 | none =>
   cases zO ((scs ns).flatMap Sc.typesL) with
   | some p=>rfl
   | none =>
     cases zO ((scs ns).flatMap Sc.clocksL) with
     | some p=>rfl
     | none =>
       cases zO ((scs ns).flatMap Sc.definesL) with
       | some p=>rfl
       | none =>
         cases zO ((scs ns).flatMap Sc.causesL) with
         | some p=>rfl
         | none =>
           cases zO (zeZ ns) with
           | some p=>rfl
           | none=>rfl
theorem zSD {c:Sc}(h:c∈scs ns):c.nd∈ns:=by
 unfold scs at h;obtain⟨i,_,hi⟩:=List.mem_filterMap.1 h;cases e:ns[i]? with
 | none=>rw[e] at hi;cases hi
 | some n=>rw[e] at hi;cases hi;exact zML e
theorem zRh (h:∀n∈ns,zOg n):zNF (ns.map eN)=zNF ns:=by have hc:∀c∈scs ns,zOg c.nd:=λc hc=>h _ (zSD hc);rw[zOF,zOF,zNU (F:=Sc.namesL) (λc h=>zRA c (hc c h)),zNU (F:=Sc.typesL) (λc _=>zRu c),zNU (F:=Sc.clocksL) (λc h=>zQU c (hc c h)),zNU (F:=Sc.definesL) (λc h=>zQz c (hc c h)),zNU (F:=Sc.causesL) (λc _=>zQ3 c)];unfold zeZ;rw[zRR]
theorem zSS {n n':Nod}(h:zQF n' n):eN n'=eN n:=by
 have e:n'.eqs.map eQ=n.eqs.map eQ:=by
  apply List.ext_getElem?;intro i;rw[List.getElem?_map,List.getElem?_map];by_cases hi:i<n.eqs.length
  . have h1:=zsc (show i<n'.eqs.length by rw[h.len];exact hi);have h2:=zsc hi;have:=h.eqs i _ _ h1 h2;rw[h1,h2];refine congrArg some ?_;unfold eQ;rw[this.ns,this.r]
  rw[List.getElem?_eq_none (by rw[h.len];omega),List.getElem?_eq_none (by omega)]
 unfold eN;rw[h.nm,h.vars,h.ins,h.outs,e]
theorem zSE (h:zPp l' l):l'.map eN=l.map eN:=by
 apply List.ext_getElem?;intro i;rw[List.getElem?_map,List.getElem?_map];by_cases hi:i<l.length
 . have h1:=zsc (show i<l'.length by rw[h.1];exact hi);have h2:=zsc hi;rw[h1,h2];exact congrArg some (zSS (h.2 i _ _ h1 h2))
 rw[List.getElem?_eq_none (by rw[h.1];omega),List.getElem?_eq_none (by omega)]
theorem zRn (h:zPp l' l)(hp:∀n∈l,zOg n)(hp':∀n∈l',zOg n):zNF l'=zNF l:=by rw[<- zRh hp,<- zRh hp',zSE h]
end
section
theorem zSo {d':Nd}{n' n:Nod}(hi:n.ins=(n.vars.filter (·.inn)).length)(ho:n.outs=(n.vars.filter (·.out)).length)(h:NdE d' n)(hn:zo6 d' n'):zQF n' n:=by
 have fl:∀(f:Vr->Bool),(∀v,f (eV v)=f v)->∀l:List Vr,(l.filter f).length=((l.map eV).filter f).length:=λf hf l=>by rw[List.filter_map,List.length_map];congr 2;funext v;exact (hf v).symm
 refine⟨hn.nm.trans h.nm,?_,?_,by rw[hn.vars];exact h.vars,hn.eqs.len.trans h.eqs.1,λi q' q h1 h2=>?_⟩
 . rw[hn.ins,hi];unfold Nd.ins;rw[fl _ (λ_=>rfl) d'.vars,h.vars,<- fl _ (λ_=>rfl)]
 . rw[hn.outs,ho];unfold Nd.outs;rw[fl _ (λ_=>rfl) d'.vars,h.vars,<- fl _ (λ_=>rfl)]
 have hl:=hn.eqs.len;have hil:=(zMJ.1 h1).1;have h3:=zsc (show i<d'.eqs.length by omega);obtain⟨e1,t,e2,e3⟩:=h.eqs.2 i _ q h3 h2;have key:∀{l:List Eqn} {qs:List Qn} (_:zge d'.exs l qs) (i:Nat) (e:Eqn) (q:Qn),l[i]?=some e->qs[i]?=some q->zrJ d'.exs e q:=by
  intro l;induction l with
  | nil=>intro qs _ i e q h;simp at h
  | cons e0 l ih =>
    rintro qs ⟨q0,l',rfl,k1,k2⟩ i e q h1 h2;cases i with
    | zero=>simp at h1 h2;subst h1 h2;exact k1
    | succ i=>exact ih k2 i e q (by simpa using h1) (by simpa using h2)
 have k:=key hn.eqs i _ q' h3 h1;exact⟨k.ns.trans e1,by rw[k.r.uno e2];exact e3⟩
end
section
open Go.RowKit
theorem zQZ:∀{ds:List Nd} {ns' ns:List Nod},zNX ds ns->ze5 ds ns'->(∀n∈ns,n.ins=(n.vars.filter (·.inn)).length/\n.outs=(n.vars.filter (·.out)).length)->zPp ns' ns:=by intro ds ns' ns h hn hio;have hl:=hn.len;refine⟨hl.trans h.1,λi n' n h1 h2=>?_⟩;have hil:=(zMJ.1 h1).1;have h3:=zsc (show i<ds.length by omega);obtain⟨m,h4,h5⟩:=zCD hn i _ h3;rw[h1] at h4;cases h4;obtain⟨a,b⟩:=hio n (zML h2);exact zSo a b (h.2 i _ n h3 h2) h5
theorem zRO {ns:List Nod}(h:∀n∈ns,zeJ n):∀n∈ns,zOg n:=λn hn q hq=>((h n hn).eqs q hq).1.symm
end
section
def eO (s:Os):Os:=(s.1,s.2.map eQ)
section
variable (c:Sc)
theorem zWl (L:List (Nat×Nat))(q o:Qn):zcC (eS c) L (eQ q) (eQ o)=zcC c L q o:=by unfold zcC;rw[show (eQ q).ns=q.ns from rfl,show (eQ o).ns=o.ns from rfl,zNB];congr 1;funext s;rw[zNB]
theorem zV9 (L:List (Nat×Nat))(eqs:List Qn):∀(f i:Nat) (s:Os),zaq (eS c) L (eqs.map eQ) f i (eO s)=eO (zaq c L eqs f i s)
 | 0,_,_=>rfl
 | f+1,i,s=>by
   have hl:∀(q:Qn) (l:List Qn) (j:Nat) (s:Os),zba (zaq (eS c) L (eqs.map eQ) f) (eS c) L (eQ q) (l.map eQ) j (eO s)=eO (zba (zaq c L eqs f) c L q l j s):=by
    intro q l;induction l with
    | nil=>intro j s;rfl
    | cons o l ih =>
      intro j s;rw[List.map_cons,zba,zba,zWl];split
      . rw[zV9 L eqs f j s];exact ih (j+1) _
      exact ih (j+1) s
   rw[zaq,zaq,List.getElem?_map];cases eqs[i]? with
   | none=>rfl
   | some q =>
     simp only[Option.map_some];rw[show (eO s).1=s.1 from rfl,show (eO s).2=s.2.map eQ from rfl];split
     . rfl
     have:=hl q eqs 0 (s.1.set i true,s.2);rw[show eO (s.1.set i true,s.2)=(s.1.set i true,s.2.map eQ) from rfl] at this;rw[this];unfold eO;simp only[List.map_append,List.map_cons,List.map_nil]
theorem zWj:zac (eS c)=(zac c).map eQ:=by
 have hf:∀(n m:Nat) (s:Os),zeG (zaq (eS c) c.linksL (c.nd.eqs.map eQ) c.nd.eqs.length) n m (eO s)=eO (zeG (zaq c c.linksL c.nd.eqs c.nd.eqs.length) n m s):=by
  intro n m;induction m with
  | zero=>intro s;rfl
  | succ m ih=>intro s;rw[zeG,zeG,zV9,ih]
 unfold zac;rw[zRx,show (eS c).nd.eqs=c.nd.eqs.map eQ from rfl,List.length_map];have:=hf c.nd.eqs.length c.nd.eqs.length (List.replicate c.nd.eqs.length false,[]);rw[show eO (List.replicate c.nd.eqs.length false,[])=(List.replicate c.nd.eqs.length false,[]) from rfl] at this;rw[this];rfl
theorem zWe (base:Nat):∀(f:Nat) (k:Nat×Nat),whM (eS c) base f k=whM c base f k
 | 0,_=>by rw[whM,whM,zPF]
 | f+1,k=>by rw[whM,whM,zPF,zST,zWe base f]
end
mutual
theorem zV6:∀t:Tm,zav (eT t)=zav t
 | .mk k a s nm n ts=>by rw[eT,zav,zav,zV4 ts]
theorem zV4:∀ts:List Tm,zhD (eL ts)=zhD ts
 | []=>by rw[eL]
 | t::l=>by rw[eL,zhD,zhD,zV6 t]
end
def eLt (l:Lt):Lt:=⟨l.cell,eT l.next,l.clock⟩
def eP (s:Cd×List Lt):Cd×List Lt:=(s.1,s.2.map eLt)
section
variable {bod:Sc->Nat->Cd->Cd}
theorem zWp (hb:∀d b K,bod (eS d) b K=bod d b K)(c:Sc)(base fu:Nat)(K:Cd)(t:Tm)(k:Nat×Nat):zeb bod (eS c) base fu K (eT t) k=zeb bod c base fu K t k:=by
 unfold zeb;rw[zN1,zNK,zQP,List.length_map,zPF,zWe];cases c.called t.s with
 | none=>rfl
 | some d => simp only[Option.map_some];rw[hb];rfl
theorem zWo (hb:∀d b K,bod (eS d) b K=bod d b K)(c:Sc)(base fu:Nat)(s:Cd×List Lt)(t:Tm)(k:Nat×Nat):zal bod (eS c) base fu (eP s) (eT t) k=eP (zal bod c base fu s t k):=by
 have h1:=zWp hb c base fu s.1 t k;have h2:zhD (eT t).ts=zhD t.ts:=by rw[zQP,<- zNC];exact zV4 _
 unfold zal;rw[zNJ,zN1,zNB,zV6,show (eP s).1=s.1 from rfl,show (eP s).2=s.2.map eLt from rfl,h1,h2];split
 . rfl
 split
 . rfl
 split
 . rfl
 split
 . rfl
 split
 . unfold eP;rw[List.map_append,zQP];cases t.ts with
   | nil=>rfl
   | cons x l=>cases l <;> rfl
 split
 . rfl
 rfl
theorem zWi (hb:∀d b K,bod (eS d) b K=bod d b K)(c:Sc)(base fu:Nat):∀(t:Tm) (s:Cd×List Lt) (k:Nat×Nat),zbk bod (eS c) base fu (eP s) (eT t) k=eP (zbk bod c base fu s t k):=by
 intro t;induction t using Tm.ind with
 | h x a nm p n ts ih =>
   intro s k;have hl:∀(l:List Tm) (i:Nat) (s:Cd×List Lt),(∀u∈l,u∈ts)->zcu (eS c) (λt _=>zak t) (λs _ _=>s) (zal bod (eS c) base fu) (eT (.mk x a nm p n ts)) k (eL l) i (eP s)=eP (zcu c (λt _=>zak t) (λs _ _=>s) (zal bod c base fu) (.mk x a nm p n ts) k l i s):=by
    intro l;induction l with
    | nil=>intro i s _;rw[eL,zcu,zcu]
    | cons u l ihl => intro i s hu;have h1:=ih u (hu u (zMS ..)) s (c.operand (.mk x a nm p n ts) i k);unfold zbk at h1;rw[eL,zcu,zcu,zQ5,h1];exact ihl (i+1) _ (λv hv=>hu v (zMX _ hv))
   have h2:=hl ts 0 s (λu hu=>hu);have hn:=zSM (.mk x a nm p n ts);have hf:=zWo hb c base fu;unfold zbk;rw[eT] at h2 hn ⊢;rw[zcs,zcs,hn];split
   . rw[h2];have:=hf (zcu c (λt _=>zak t) (λs _ _=>s) (zal bod c base fu) (.mk x a nm p n ts) k ts 0 s) (.mk x a nm p n ts) k;rw[eT] at this;exact this
   have:=hf s (.mk x a nm p n ts) k;rw[eT] at this;exact this
theorem zWh (hb:∀d b K,bod (eS d) b K=bod d b K)(c:Sc)(base fu:Nat):∀(l:List Qn) (s:Cd×List Lt),zbH bod (eS c) base fu (l.map eQ) (eP s)=eP (zbH bod c base fu l s)
 | [],s=>rfl
 | q::l,s=>by
   have h1:zdh (eS c) base (zbo (zdl (eQ q).ns (eQ q).ps) (eQ q).ns.length (eQ q).ns.length)=zdh c base (zbo (zdl q.ns q.ps) q.ns.length q.ns.length):=by
    unfold zdh zbo;rw[List.map_map,List.map_map];refine List.map_congr_left (λj _=>?_)
    show (2,((base+(eS c).idx (q.ns[q.ns.length-1-j]?.getD ⟨#[]⟩):Nat):Int))=(2,((base+c.idx (q.ns[q.ns.length-1-j]?.getD ⟨#[]⟩):Nat):Int));rw[zNB]
   rw[List.map_cons,zbH,zbH,h1,show (eQ q).ns=q.ns from rfl,show (eQ q).r=eT q.r from rfl,zNB,zOB,zWi hb c base fu];exact zWh hb c base fu l ((zbk bod c base fu s q.r (c.of (c.idx (q.ns.headD ⟨#[]⟩)))).1.adds (zdh c base (zbo (zdl q.ns q.ps) q.ns.length q.ns.length)),(zbk bod c base fu s q.r (c.of (c.idx (q.ns.headD ⟨#[]⟩)))).2)
theorem zV8 (hb:∀d b K,bod (eS d) b K=bod d b K)(c:Sc)(base fu:Nat):∀(g:Nat) (s:Cd×List Lt),zcj bod (eS c) base fu g (eP s)=zcj bod c base fu g s
 | 0,s=>rfl
 | g+1,s=>by
   obtain⟨K,ls⟩:=s;cases ls with
   | nil=>rfl
   | cons m r => show zcj bod (eS c) base fu g ((zbk bod (eS c) base fu (K.adds (whM (eS c) base fu m.clock),r.map eLt) (eT m.next) m.clock).1.add 4 m.cell,(zbk bod (eS c) base fu (K.adds (whM (eS c) base fu m.clock),r.map eLt) (eT m.next) m.clock).2)=zcj bod c base fu g ((zbk bod c base fu (K.adds (whM c base fu m.clock),r) m.next m.clock).1.add 4 m.cell,(zbk bod c base fu (K.adds (whM c base fu m.clock),r) m.next m.clock).2);rw[zWe];have h1:=zWi hb c base fu m.next (K.adds (whM c base fu m.clock),r) m.clock;rw[show eP (K.adds (whM c base fu m.clock),r)=(K.adds (whM c base fu m.clock),r.map eLt) from rfl] at h1;rw[h1];exact zV8 hb c base fu g ((zbk bod c base fu (K.adds (whM c base fu m.clock),r) m.next m.clock).1.add 4 m.cell,(zbk bod c base fu (K.adds (whM c base fu m.clock),r) m.next m.clock).2)
end
theorem zWa (fu gas:Nat):∀(f:Nat) (c:Sc) (b:Nat) (K:Cd),zca fu gas f (eS c) b K=zca fu gas f c b K
 | 0,_,_,_=>rfl
 | f+1,c,b,K=>by rw[zca,zca,zWj,zPF];have h1:=zWh (zWa fu gas f) c b fu (zac c) ((K.slotsTo (b+c.nd.vars.length+1)).add 2 ((b+c.nd.vars.length:Nat):Int),[]);rw[show eP ((K.slotsTo (b+c.nd.vars.length+1)).add 2 ((b+c.nd.vars.length:Nat):Int),[])=((K.slotsTo (b+c.nd.vars.length+1)).add 2 ((b+c.nd.vars.length:Nat):Int),[]) from rfl] at h1;rw[h1];exact zV8 (zWa fu gas f) c b fu gas _
theorem zWb (gas:Nat)(pre:List Nod)(n:Nod):zTs gas (pre.map eN) (eN n)=zTs gas pre n:=by
 unfold zTs;have h1:hdM ⟨pre.map eN,eN n⟩=hdM ⟨pre,n⟩:=by
  unfold hdM
  show (⟨((n.vars.map eV).take n.ins).map (·.bl),n.outs,0,[],0,[]⟩:Cd)=⟨(n.vars.take n.ins).map (·.bl),n.outs,0,[],0,[]⟩;rw[<- List.map_take,List.map_map];rfl
 rw[h1];exact zWa 18 gas 6 ⟨pre,n⟩ 0 _
theorem zWd {gas:Nat}{pre pre':List Nod}{n n':Nod}(h:zPp (pre'++[n']) (pre++[n])):zTs gas pre' n'=zTs gas pre n:=by
 have e:=zSE h;rw[List.map_append,List.map_append] at e;obtain⟨e1,e2⟩:=List.append_inj' e rfl;rw[<- zWb gas pre' n',<- zWb gas pre n,e1];have:eN n'=eN n:=by simpa using e2
 rw[this]
end
section
open Go.RowKit
theorem zXJ (o:Int):zNF [suN o]=0:=by
 unfold suN suQ suR chT zW1;split
 . generalize (zz2 o).natAbs=n;kernel_rfl
 generalize (zz2 o).natAbs=n;kernel_rfl
theorem zXQ (o:Int)(h1:-9223372036854775808<=o)(h2:o<=9223372036854775807):(suT (zWT o)).size<=1200:=by
 have hn:=zWY h1 h2;have hz:=zWV 18 (zz2 o).natAbs (by omega);have hd:(zWT o).size<=20:=by
  unfold zWT;split
  . rw[ByteArray.size_append];show 1+_<=_;omega
  omega
 unfold suT;simp only[ByteArray.size_append]
 show 57+(_+(1+(5+(_+(1+(8+1))))))<=1200;omega
theorem zYh (o:Int)(h1:-9223372036854775808<=o)(h2:o<=9223372036854775807):∃n,zUD (suT (zWT o)) [n] [] n 1201/\zTs 1201 [] n=zTs 1201 [] (suN o):=by
 obtain⟨r17,r18,e17,e18,hX,hK,g17,g18⟩:=zk1;clear hX hK;have hs:=zXQ o h1 h2;obtain⟨d,hd⟩:∃d,d=17:=⟨_,rfl⟩;have hc:=zXZ h1 h2 (d:=d) (g:=1300) hd (by omega);have d17:r17=(lev d).ex:=by rw[hd];exact e17
 have d18:r18=(lev (d+1)).ex:=by rw[e18];rw[hd]
 rw[<- d17,<- d18] at hc;obtain⟨R,hR⟩:∃R,zgo r17 r18 1300 (suT (zWT o))=R:=⟨_,rfl⟩;rw[hR] at hc;obtain⟨ns,hA⟩:=zVk e17 e18 g17 g18 hs hR hc.1;have hsm:=zQZ hc.2 hA.of (λn hn=>by rw[zMZ.1 hn];exact⟨rfl,rfl⟩);have hk:zNF ns=0:=(zRn hsm (λn hn q hq=>by rw[zMZ.1 hn] at hq;rw[zMZ.1 hq];rfl) (zRO hA.wf)).trans (zXJ o);have hcm:zbc ns=none:=by
  unfold zNF at hk;cases h:zbc ns with
  | none=>rfl
  | some p => rw[h] at hk;have:=zFs (k:=p.1) (p:=p.2) h;have hk':p.1=0:=hk;omega
 obtain⟨pre,n,h⟩:=zVe e17 e18 (gas:=1201) (by decide) (by decide) hs hR hc.1 hA hcm;have hl:ns.length=1:=hsm.1;have hp:pre=[]:=by have:=h.eq;rw[this,zMM] at hl;exact List.length_eq_zero_iff.1 (by simpa using hl)
 subst hp;have hn:ns=[n]:=h.eq;subst hn;exact⟨n,h,zWd (pre:=[]) (pre':=[]) hsm⟩
structure Ar (w:Xw) (N:Nat) (v:Xv) (l:List Int):Prop where
 ex:∃a c,v=.slice a l.length c/\l.length<=9223372036854775807/\(l≠[]->∃g o,a=some (xD g o)/\g<N/\∀j x,l[j]?=some x->w.cell? (xD g (o+j))=some (xI x))
 wf:∀x∈l,-9223372036854775808<=x/\x<=9223372036854775807
theorem Ar.fr {w w':Xw}{N:Nat}{v:Xv}{l:List Int}(h:Ar w N v l)(ho:Old N w w'):Ar w' N v l:=by obtain⟨a,c,h1,h2,h3⟩:=h.ex;refine⟨⟨a,c,h1,h2,λhl=>?_⟩,h.wf⟩;obtain⟨g,o,e1,e2,e3⟩:=h3 hl;exact⟨g,o,e1,e2,λj x hj=>(zWS (w:=w) (ho g e2)).trans (e3 j x hj)⟩
theorem zmf {P:Program}{f:FuncId}{s s':Xb}{w:Xw}{Q:Ending->World->Prop}(h:s=s')(H:Calls P f #[.string s'] w Q):Calls P f #[.string s] w Q:=by subst h;exact H
theorem zfb (w:Xw)(a b:Int)(t:Xy):Nm (w.alloc (.cells #[xI a,xI b] t)) (xS w.heap.size 2 2) w.heap.size [a,b]:=by
 refine⟨some (xD w.heap.size 0),2,rfl,zMK _,by decide,λ_=>⟨0,rfl,λj x hj=>?_⟩⟩;obtain⟨c0,c1,_,_⟩:=zp (zc w (.cells #[xI a,xI b] t));rcases j with _|_|j
 . simp at hj;subst hj;exact c0
 . simp at hj;subst hj;exact c1
 simp at hj
end
section
open Go.RowKit
variable {o:Int}
def cS (o:Int):Cd:=if zz2 o<0
 then ⟨[false,true],1,4,[wrap64 (-((zz2 o).natAbs:Int))],4,[(0,1),(2,3),(1,0),(1,1),(0,((zz2 o).natAbs:Int)),(7,0),(3,0),(5,0),(16,0),(2,2),(1,3),(1,2),(4,0)]⟩
 else ⟨[false,true],1,4,[((zz2 o).natAbs:Int)],4,[(0,1),(2,3),(1,0),(1,1),(0,((zz2 o).natAbs:Int)),(3,0),(5,0),(16,0),(2,2),(1,3),(1,2),(4,0)]⟩
theorem zXS (o:Int):({ zTs 1201 [] (suN o) with depth:=hiR 0 0 (zTs 1201 [] (suN o)).row }:Cd)=cS o:=by
 unfold suN suQ suR chT zW1 cS;split
 . generalize (zz2 o).natAbs=n;kernel_rfl
 generalize (zz2 o).natAbs=n;kernel_rfl
theorem zX8 (h1:-9223372036854775808<=o)(h2:o<=9223372036854775807):zlL (suT (zWT o)) (cS o):=by obtain⟨n,h,hc⟩:=zYh o h1 h2;have hu:=zUo _ h.rt;have hk:=zXS o;rw[<- hc] at hk;rw[hk] at hu;have hlt:∀x∈zcw (zcx (zTs 1201 [] n)),x<256:=znW _ (zjc _ h.code.ops);obtain⟨hok,hfit⟩:=zwn hlt hu;exact⟨⟨[],n,18,1201,6,_,h.fix,h.code,hu⟩,hok,hfit⟩
def nU (f:Int)(r:Bool)(P a:Int):Int:=wrap64 ((if r then f else P)+a)
theorem zXO (o P a:Int)(r:Bool)(h1:-9223372036854775808<=o)(h2:o<=9223372036854775807):(zbm (cS o) [P] [a,zbV r]).cells=[nU (zz2 o) r P a]/\zcX (cS o) (zbm (cS o) [P] [a,zbV r])=[nU (zz2 o) r P a]:=by
 have hn:=zWY h1 h2;unfold cS nU;rw[Int.add_comm];by_cases h:zz2 o<0
 . rw[zM2 h];generalize hN:(zz2 o).natAbs=n at *;have e:zz2 o=wrap64 (-(n:Int)):=by unfold wrap64;omega
   rw[e];cases r
   . exact⟨by kernel_rfl,by kernel_rfl⟩
   exact⟨by kernel_rfl,by kernel_rfl⟩
 rw[zM1 h];generalize hN:(zz2 o).natAbs=n at *;have e:zz2 o=(n:Int):=by omega
 rw[e];cases r
 . exact⟨by kernel_rfl,by kernel_rfl⟩
 exact⟨by kernel_rfl,by kernel_rfl⟩
theorem zXA (h1:-9223372036854775808<=o)(h2:o<=9223372036854775807):(cS o).cells=[zz2 o]:=by
 have hn:=zWY h1 h2;unfold cS;split
 . show [_]=[_];congr 1;unfold wrap64;omega
 show [_]=[_];congr 1;omega
theorem zXe (o:Int):(cS o).bools=[false,true]/\(cS o).outs=1:=by unfold cS;split <;> exact⟨rfl,rfl⟩
theorem zXt (o a:Int)(r:Bool):zdE (cS o).bools [a,zbV r]=none:=by rw[(zXe o).1];cases r <;> rfl
theorem zX7 (D:Xb):((((tA++D)++⟨#[32,101,108,115,101,32]⟩)++D)++⟨#[32,102,98,121,32,115,41,59,32,125]⟩)=suT D:=by rw[show (⟨#[32,101,108,115,101,32]⟩:Xb)=sp1++bE by decide +kernel,show (⟨#[32,102,98,121,32,115,41,59,32,125]⟩:Xb)=sp1++(bG++rbW) by decide +kernel];unfold suT;simp only[ByteArray.append_assoc]
theorem zXD (h1:-9223372036854775808<=o)(h2:o<=9223372036854775807):(zWT o).size<=20:=by
 have hn:=zWY h1 h2;have hz:=zWV 18 (zz2 o).natAbs (by omega);unfold zWT;split
 . rw[ByteArray.size_append];show 1+_<=_;omega
 omega
end
section
open Go.RowKit
theorem zta (S:Xs)(m:Ma)(sv:Xv)(c:Cd)(cells slots:List Int)(w:Xw)(v:Xv)(g:Nat)(l:List Int)(y:Int)(hG:Gl S w)(h:MM w m sv c cells slots)(hl:Nm w v g l)(hg2:l≠[]->g≠m.b2)(hr:zdE c.bools l=none)(hfit:zd9 c.slots c.cells.length 0 c.row=some 0)(h1:c.outs=1)(hy:zcX c (zbm c cells l)=[y]) :
 xK 7 #[xP m.M,v] w (λe w'=>∃sv',e=.returned (.tuple #[xI y,.bool true])/\MM w' m sv' c (zbm c cells l).cells (zbm c cells l).slots/\Fr (λj=>m.N<=j) w w'):=by
 have HSt:=za (zp7 S m sv c cells slots w v g l hG h hl hg2 hr hfit);rw[h1,hy] at HSt;clear hG h hl hg2 hr hfit h1 hy;generalize zbm c cells l=R at *;go_enter func7,ntmps7;go_wp2_with (go_at_call 11;refine HSt.o.mono ?_;rintro e w1 ⟨ob,sv',rfl,q1,q2,q3,q4⟩;have q5:xH w1 ob #[xI y] 2:=q2;obtain⟨o0,of,oz⟩:=zu q5;have Q3:=za q3;have Q4:=za q4;clear q2 q3 q4 q5);refine zWR (v:=.tuple #[xI y,.bool true]) (by simp[results,results7,go_sem]) rfl ⟨sv',rfl,Q3.o,Q4.o⟩
end
end Go.Proofs.YtenadialhccdiaaGreatDoor
