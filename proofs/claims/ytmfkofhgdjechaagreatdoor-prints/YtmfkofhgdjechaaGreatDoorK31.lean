/- Part 32 of the proof: ClkA FacC ChkE ChkF. -/
import Derived.Carry
import Derived.Test.YtmfkofhgdjechaaGreatDoorK30
set_option maxRecDepth 100000
set_option maxHeartbeats 8000000
namespace Go.Proofs.YtmfkofhgdjechaaGreatDoor
open Go.Proofs.Tryz
open Go.RowKit
section
variable {cb:Nat} {c:Sc} {w w':World}
attribute [local go_sem ↓] Go.wp_at_zero Go.wp_at_succ
theorem zd8 (w:World)(o1 o2:Obj):((w.alloc o1).alloc o2).heap[w.heap.size]?=some o1/\((w.alloc o1).alloc o2).heap[w.heap.size+1]?=some o2:=by refine⟨(Below.heap_alloc _ _ _ (by simp)).trans (zc w o1),?_⟩;have:=zc (w.alloc o1) o2;rwa [zsb] at this
def clk (k:Nat×Nat):Int×Int:=((k.1:Int),(k.2:Int))
def ckL (c:Sc):Nat->List ((Int×Int)×Value)
 | 0=>[]
 | i+1=>ckL c i++[(((i:Int),1),pr (clk (c.of i))),(((i:Int),2),pr (clk (c.of i)))]
theorem zpm (c:Sc)(n:Nat):(ckL c n).length=2*n:=by
 induction n with
 | zero=>rfl
 | succ n ih=>rw[ckL,List.length_append,ih];simp;omega
theorem zqf (c:Sc)(n:Nat):∀p∈ckL c n,∃j,j<n/\p.1.1=(j:Int):=by
 induction n with
 | zero=>intro p h;simp[ckL] at h
 | succ n ih =>
   intro p h;rw[ckL,List.mem_append] at h;rcases h with h|h
   . obtain⟨j,h1,h2⟩:=ih p h;exact⟨j,by omega,h2⟩
   . simp at h;rcases h with rfl|rfl
     . exact⟨n,by omega,rfl⟩
     . exact⟨n,by omega,rfl⟩
theorem zkA (c:Sc)(n:Nat)(s:Int):((n:Int),s) ∉ (ckL c n).map (·.1):=by intro h;obtain⟨p,h1,h2⟩:=List.mem_map.1 h;obtain⟨j,h3,h4⟩:=zqf c n p h1;rw[h2] at h4;simp at h4;omega
theorem znw {κ:Type} [DecidableEq κ] (k:κ)(m:List (κ×Value)):∀l:List (κ×Value),zaT k (l++m)=match zaT k l with|some v=>some v|none=>zaT k m:=by
 intro l;induction l with
 | nil=>rfl
 | cons p l ih =>
   rw[List.cons_append];simp only[zaT];split
   . rfl
   . exact ih
theorem zoh (c:Sc)(n j s:Nat):zaT ((j:Int),(s:Int)) (ckL c n)=if j<n/\(s=1∨s=2) then some (pr (clk (c.of j))) else none:=by
 induction n with
 | zero=>simp[ckL,zaT]
 | succ n ih =>
   rw[ckL,znw,ih];by_cases h1:j<n
   . by_cases h2:s=1∨s=2
     . rw[if_pos ⟨h1,h2⟩,if_pos ⟨by omega,h2⟩]
     . rw[if_neg (λe=>h2 e.2),if_neg (λe=>h2 e.2)];simp only[zaT,Prod.mk.injEq];rw[if_neg (by omega),if_neg (by omega)]
   . rw[if_neg (λe=>h1 e.1)];simp only[zaT,Prod.mk.injEq];by_cases h3:j=n
     . subst h3;by_cases h4:s=1
       . subst h4;simp
       . by_cases h5:s=2
         . subst h5;simp
         . rw[if_neg (by omega),if_neg (by omega),if_neg (by omega)]
     . rw[if_neg (by omega),if_neg (by omega),if_neg (by omega)]
theorem zng (c:Sc)(n:Nat)(v:Value):upd ((n:Int),1) v (ckL c n)=ckL c n++[(((n:Int),1),v)]:=zh0 (zkA c n 1)
theorem zn3 (c:Sc)(n:Nat)(u v:Value):upd ((n:Int),2) v (ckL c n++[(((n:Int),1),u)])=ckL c n++[(((n:Int),1),u),(((n:Int),2),v)]:=by
 rw[zh0]
 . simp
 . rw[List.map_append,List.mem_append];rintro (h|h)
   . exact zkA c n 2 h
   . simp at h
def za7 (w:World)(c:Sc)(cb:Nat):Prop:=zbn w cb pr (ckL c c.nd.vars.length)
theorem za7.of' (h:za7 w c cb)(hb:w'.heap[cb]?=w.heap[cb]?):za7 w' c cb:=zbn.of h hb
theorem za7.lt (h:za7 w c cb):cb<w.heap.size:=zbn.lt h
theorem za7.keep (h:za7 w c cb)(hB:xB w w'):za7 w' c cb:=h.of' (hB.block _ h.lt)
theorem Tryz.zeroClock (w:World):(zeroValue 228).run prog w=.ok (pr (0,0)) w:=by unfold pr;kernel_rfl
theorem zoP (c:Sc)(i:Nat)(h:¬i<c.nd.vars.length):c.of i=(0,0):=by unfold Sc.of;rw[List.getElem?_eq_none (by omega)]
theorem zkW (h:za7 w c cb)(k:Nat×Nat) :
 (Instr.lookup 224 (.map (some cb)) (pr (clk k)) false).run prog w=.ok (pr (clk (c.up k))) w:=by
 rw[zgI Tryz.keyClock underlying224 Tryz.zeroClock h (clk k) false];rw[show clk k=((k.1:Int),(k.2:Int)) from rfl,zoh];refine congrArg (λv=>Result.ok v w) ?_
 show Option.getD _ _=_;unfold Sc.up;by_cases h2:k.2=1∨k.2=2
 . rw[if_pos h2];by_cases h1:k.1<c.nd.vars.length
   . rw[if_pos ⟨h1,h2⟩];rfl
   . rw[if_neg (λe=>h1 e.1),zoP c _ h1];rfl
 . rw[if_neg (λe=>h2 e.2),if_neg h2];rfl
theorem zru (h:za7 w c cb)(i:Nat) :
 (Instr.lookup 224 (.map (some cb)) (.agg #[xI (i:Int),xI 1]) false).run prog w=.ok (.agg #[xI ((c.of i).1:Nat),xI ((c.of i).2:Nat)]) w:=by
 have:=zkW h (i,1);rw[show c.up (i,1)=c.of i from if_pos (Or.inl rfl)] at this;exact this
theorem zqw (h:za7 w c cb)(ty:TypeId):(Builtin.len_ #[224] ty #[.map (some cb)]).run prog w=.ok (xI ((2*c.nd.vars.length:Nat):Int)) w:=by
 obtain⟨es,clock,h1,h2⟩:=h;have h3:es.size=2*c.nd.vars.length:=by have:=congrArg List.length h2;rw[List.length_map,List.length_map,zpm] at this;simpa using this
 rw[<- h3];have h4:prog.underlying 224=some (.map (prog.mapKeyOf 224) (prog.mapElemOf 224)):=by kernel_rfl
 exact run_len_map w 224 ty cb es clock h4 h1
theorem zbC (i:Nat)(w:World)(h:za7 w c cb) :
 xK 116 #[.map (some cb),xI (i:Int)] w (λe w'=>e=.returned (.agg #[xI ((c.of i).1:Nat),xI ((c.of i).2:Nat)])/\xB w w'):=by
 have hl:=λo=>zru (h.keep (zq w o)) i;go_enter func116,ntmps116;go_wp2_with fail;refine bodyPost_ret (v:=.agg #[xI ((c.of i).1:Nat),xI ((c.of i).2:Nat)]) (by simp[results,results116,go_sem]) rfl ⟨rfl,?_⟩;exact zq w _
theorem zdR {b:Nat}{e:TypeId}{u0 u1:Value}(h:xH w b #[u0,u1] e)(v0 v1:Value):((w.setCell (xD b 0) v0).setCell (xD b 1) v1).heap[b]?=some (.cells #[v0,v1] e (0,0)) :=
 zh _ _ _ _ (zh _ _ _ _ h)
theorem znR (c:Sc)(i:Nat)(m:Nat)(k:Nat×Nat):zhr c i (m+1) k=if k=(0,0) then false else if k.1=i then true else zhr c i m (c.up k):=rfl
theorem ziA (i:Nat)(w:World)(h:za7 w c cb)(h16:c.nd.vars.length<=1000) :
 xK 115 #[.map (some cb),xI (i:Int)] w (λe w'=>e=.returned (.bool (c.comesBack i))/\xB w w'):=by
 have HL:=zbC i w h;have HC:=za h;have hz:=h.lt;clear h;go_enter func115,ntmps115;go_upto_region 2 with (go_at_call 116;refine HL.mono ?_;rintro e w1 ⟨rfl,HB⟩);refine zn (λW=>za7 W c cb/\xB w W/\xH W w1.heap.size #[xI ((c.of i).1:Nat),xI ((c.of i).2:Nat)] 228) ⟨(HC.o.keep HB).keep (zq w1 _),zaU HB (Nat.le_refl _) _,zc w1 _⟩ ?_;rintro W ⟨hCW,hBW,hXW⟩;have hzw:w.heap.size<=w1.heap.size:=HB.size;have hlen:=zqw hCW;have HCW:=za hCW;have HBW:=za hBW;have HXW:=za hXW;clear hCW hBW hXW;go_wp2_with fail;go_loopg [11] (2*c.nd.vars.length+1) (λj x wr=>∃(k:Nat) (kk:Nat×Nat),k+j=2*c.nd.vars.length+1/\k<=2*c.nd.vars.length/\x=xI k/\Hid (za7 wr c cb)/\Hid (xH wr w1.heap.size #[xI (kk.1:Nat),xI (kk.2:Nat)] 228)/\Hid (c.comesBack i=zhr c i (j-1) kk)/\Hid (xB w wr));case atStart=>exact⟨0,c.of i,by omega,Nat.zero_le _,rfl,HCW.o,HXW.o,rfl,HBW.o⟩
 case round =>
  clear HCW HXW HBW hlen;obtain⟨k,kk,hkj,hk,rfl,HC,HX,HD,HB2⟩:=hrel;obtain⟨x0,x1,xf,xz⟩:=zp HX.o;by_cases hlt:k<2*c.nd.vars.length
  . obtain⟨m,rfl⟩:∃m,gk=m+1+1:=⟨gk-1-1,by omega⟩;have hE:=HD.o;rw[show m+1+1-1=m+1 from rfl,znR] at hE;have hlk:=zkW HC.o kk;unfold pr clk at hlk;clear HD;by_cases h0:kk=(0,0)
    . rw[if_pos h0] at hE;subst h0;have HE:=za hE;clear hE;go_wp2_with fail;go_ret;exact⟨by rw[HE.o];rfl,HB2.o⟩
    . rw[if_neg h0] at hE;by_cases h1:kk.1=i
      . rw[if_pos h1] at hE;have h1':(kk.1:Int)=(i:Int):=(by omega);have HE:=za hE;clear hE h1;obtain⟨k1,k2⟩:=kk;simp only[Prod.mk.injEq] at h0;simp only at h1' HX HE x0 x1 hlk;by_cases g0:(k1:Int)=0;have g1:¬(k2:Int)=0:=(by omega);simp only[g0] at hlk;all_goals clear h0
        . go_wp2_with fail;go_ret;exact⟨by rw[HE.o];rfl,HB2.o⟩
        . go_wp2_with fail;go_ret;exact⟨by rw[HE.o];rfl,HB2.o⟩
      . rw[if_neg h1] at hE;have h1':¬(kk.1:Int)=(i:Int):=(by omega);have HE:=za hE;clear hE h1;have hcn:¬cb=w1.heap.size:=(by omega);obtain⟨k1,k2⟩:=kk;simp only[Prod.mk.injEq] at h0;simp only at h1' HX HE x0 x1 hlk;by_cases g0:(k1:Int)=0;have g1:¬(k2:Int)=0:=(by omega);simp only[g0] at hlk;all_goals clear h0
        iterate 2
         . go_wp2_with fail;go_roundg (m+1);case measure=>omega
           exact⟨k+1,c.up (k1,k2),by omega,by omega,by go_num,HC.o.of' ((Below.heap_setCell _ _ _ _ hcn).trans (Below.heap_setCell _ _ _ _ hcn)),zdR HX.o _ _,HE.o,zC (zC HB2.o hzw _) hzw _⟩
  . have ek:k=2*c.nd.vars.length:=by omega
    subst ek;have:gk=1:=by omega
    subst this;have HE:Hid (c.comesBack i=false):=HD.o;clear HD;go_wp2_with fail;go_ret;exact⟨by rw[HE.o];rfl,HB2.o⟩
end
section
variable {ns:List Nod} {N:Nat}
attribute [local go_sem ↓] Go.wp_at_zero Go.wp_at_succ
theorem NL.ne {w:World}{gv:Value}{xs:List Value}(h:NL w N ns gv xs):NE w N ns gv:=by
 have hc:=h.own;rcases h.own.2 with ⟨h1,h2⟩|⟨g,cap,cur,hv,_,_,h3,h4,_⟩
 . exact⟨none,0,by rw[h1,h2],by omega,by omega,λhne=>absurd (List.length_eq_zero_iff.1 h2) hne⟩
 . subst hv;refine⟨some (xD g 0),cap,rfl,h3,by unfold maxLen at h4;omega,λ_=>⟨g,rfl,h.lo g rfl,λi n hi=>?_⟩⟩;obtain⟨u,hu,hnp⟩:=h.at' i n hi;have:=hc.cells (g:=g) rfl i u hu;have e0:((xD g 0):Addr).add i=⟨g,i,none⟩:=by cases i <;> simp[Addr.add]
   rw[e0] at this;exact⟨u,this,hnp⟩
theorem zh3 {pv:Value}(k:Nat)(n:Nod)(w:World)(h:PT w N ns pv)(hN:N<=w.heap.size)(hk:ns[k]?=some n) :
 xK 99 #[pv,xI k] w (λe w'=>∃x cp nb,e=.returned (.agg #[.slice x k cp,xP nb])/\ScV w' N ⟨ns.take k,n⟩ (.slice x k cp) (xP nb)/\xB w w'):=by
 obtain⟨gb,gv,xs,rfl,hgb,hg,hl⟩:=h;have hlt:=(List.getElem?_eq_some_iff.1 hk).1;have hE:=hl.ne;have h6:=hl.few;obtain⟨x,cp,rfl,hcp,hmx,hin⟩:=hl.ne;obtain⟨g,rfl,hgN,hat⟩:=hin (by intro e;rw[e] at hlt;simp at hlt);obtain⟨u,hu,hnp⟩:=hat k n hk;have HNP:=za hnp;have HE:=za (hE.take hlt);obtain⟨nb,vs,qv,xs',rfl,hnt⟩:=hnp;obtain⟨p0,pf,pz⟩:=zu hg;have i1:(k:Int)<=(cp:Int):=by omega
 have i0:(0:Int)<=(k:Int):=by omega
 have i2:(k:Int)<(ns.length:Int):=by omega
 have hgw:g<w.heap.size:=by omega
 clear hE hin hat hnt hl hg hk;go_enter func99,ntmps99;go_wp2_with fail;refine zn (λW=>W=w.alloc (.cells #[.slice none 0 0,.pointer none] 202 (0,0))/\True) ⟨rfl,trivial⟩ ?_;rintro W ⟨hW,_⟩;have HW:=za (hW▸zq w (.cells #[.slice none 0 0,.pointer none] 202 (0,0)):xB w W);obtain⟨r0,r1,rf,rz⟩:=zp (hW▸zc w (.cells #[.slice none 0 0,.pointer none] 202 (0,0)):W.heap[w.heap.size]?=_);have s0:=zd HW.o p0 pz;have s1:=zd HW.o hu hgw;have hn1:¬w.heap.size=gb:=by omega
 have hn2:¬w.heap.size=g:=by omega
 have hn3:¬gb=w.heap.size:=by omega
 have hn4:¬g=w.heap.size:=by omega
 clear hW p0 hu;go_region_held3 (λw'=>w'.cell? (xD gb 0)=some (xS g ns.length cp)/\w'.cell? (xD g k)=some (xP nb)) (go_keep) (fail);go_wp2_with fail;have hBn:=zo (zC (i:=1) (zC (b:=w.heap.size) (i:=0) HW.o (Nat.le_refl _) (xS g k cp)) (b:=w.heap.size) (Nat.le_refl _) (xP nb));refine bodyPost_ret (v:=.agg #[xS g k cp,xP nb]) (by simp[results,results99,go_sem,r0,r1]) rfl ⟨_,_,_,rfl,?_,hBn⟩;exact⟨HE.o.old (zm hBn hN),HNP.o.old (zm hBn hN)⟩
end
section
variable {N:Nat} {c:Sc} {ev nv:Value} {w:World}
attribute [local go_sem ↓] Go.wp_at_zero Go.wp_at_succ
structure zdA (w:World) (N:Nat) (ts:List Tm) (v:Value):Prop where
 ex:∃a cp,v=.slice a ts.length cp/\ts.length<=cp/\cp<=9223372036854775807/\(ts≠[]->∃g o,a=some (xD g o)/\g<N/\∀i u,ts[i]?=some u->∃ub,w.cell? (xD g (o+i))=some (xP ub)/\TT w N u (xP ub))
theorem zdA.old {w':World}{ts:List Tm}{v:Value}(h:zdA w N ts v)(ho:Old N w w'):zdA w' N ts v:=by obtain⟨a,cp,h1,h2,h3,h4⟩:=h.ex;refine⟨a,cp,h1,h2,h3,λhne=>?_⟩;obtain⟨g,o,h5,h6,h7⟩:=h4 hne;refine⟨g,o,h5,h6,λi u hi=>?_⟩;obtain⟨ub,h8,h9⟩:=h7 i u hi;exact⟨ub,(World.cell?_of_block (w:=w) (ho g h6)).trans h8,h9.old ho⟩
theorem zkm {t:Tm}{args:Value}{vs:List Value}(hown:w.ownsRow 0 159 1 args vs.length vs)(hl:vs.length=t.ts.length)(hs:∀(i:Nat) (u:Tm) (x:Value),t.ts[i]?=some u->vs[i]?=some x->TT w N u x)(hg:∀g,args.ownBlock=some g->g<N):zdA w N t.ts args:=by
 obtain⟨x,cp,rfl⟩:=zB hown;have hcp:vs.length<=cp/\cp<=9223372036854775807:=by
  rcases hown.2 with ⟨e,h⟩|⟨g,cap,cur,hv,_,_,h3,h4,_⟩
  . simp only[Value.slice.injEq] at e;omega
  . cases hv;unfold maxLen at h4;exact⟨h3,by omega⟩
 refine⟨x,cp,by rw[hl],by omega,hcp.2,λhne=>?_⟩;have h0:0<vs.length:=by rw[hl];exact List.length_pos_iff.2 hne
 obtain⟨g,cap,hv,_⟩:=zM hown h0;cases hv;refine⟨g,0,rfl,hg g rfl,λi u hu=>?_⟩;have hi:=(List.getElem?_eq_some_iff.1 hu).1;have hv:vs[i]?=some vs[i]:=zsc (by omega);have hc:=zhv hown hv;have ht:=hs i u _ hu hv;obtain⟨ub,_,_,e,_⟩:=ht.ptr;rw[e] at hc ht;exact⟨ub,by rw[Nat.zero_add];exact hc,ht⟩
theorem zkY (c:Sc)(ty:Nat)(t:Tm)(l:List Tm):zcv c ty (t::l)=(zaj c t==ty&&zcv c ty l):=rfl
theorem zhS (hc:zbr c)(ty:Nat)(ts:List Tm)(v:Value)(w:World)(HA:zdA w N ts v)(HSc:ScV w N c ev nv)(hN:N<=w.heap.size)(HO:∀t∈ts,zdg c t) :
 xK 176 #[.agg #[ev,nv],xI ty,v] w (λe w'=>e=.returned (.bool (zcv c ty ts))/\xB w w'):=by
 obtain⟨x,cp,rfl,hcp,hmx,_⟩:=HA.ex;obtain⟨xe,cpe,nb,rfl,rfl,hnb⟩:=HSc.shape;go_enter func176,ntmps176;go_wp2_with fail;go_loopg [11] (ts.length+1) (λj i wr=>∃k:Nat,k+j=ts.length+1/\k<=ts.length/\i=xI k/\Hid (zcv c ty (ts.drop k)=zcv c ty ts)/\Hid (xH wr w.heap.size #[xE xe c cpe,xP nb] 205)/\Hid (xB w wr));case atStart=>exact⟨0,by omega,Nat.zero_le _,rfl,rfl,zc w _,zq w _⟩
 case round =>
  obtain⟨k,hkj,hk,rfl,HS,HX,HB⟩:=hrel;obtain⟨s0,s1,sf,sz⟩:=zp HX.o;by_cases hlt:k<ts.length
  . obtain⟨t,ht⟩:∃t,ts[k]?=some t:=⟨_,zsc hlt⟩;obtain⟨x',cp',e1,_,_,hin⟩:=(HA.old (zm HB.o hN)).ex;cases e1;obtain⟨g,o,rfl,hgN,hat⟩:=hin (by intro e;rw[e] at hlt;simp at hlt);obtain⟨ub,hcu,hTu⟩:=hat k t ht;have HT:=za (zcQ hc t (xP ub) wr hTu (HSc.old (zm HB.o hN)) (by have:=HB.o.size;omega) (HO t (List.mem_of_getElem? ht)));have hd:ts.drop k=t::ts.drop (k+1):=by obtain⟨e1,e2⟩:=List.getElem?_eq_some_iff.1 ht;rw[List.drop_eq_getElem_cons e1,e2]
    have hS:=HS.o;rw[hd,zkY] at hS;have hzr:=HB.o.size;by_cases hq:zaj c t=ty
    . have hq':((zaj c t:Int) != (ty:Int))=false:=(by simp[hq]);have HS2:Hid (zcv c ty (ts.drop (k+1))=zcv c ty ts):=(by unfold Hid;rw[<- hS];simp[hq]);go_wp2_with (go_at_call 175;refine HT.o.mono ?_;rintro e w1 ⟨rfl,HB1⟩);go_roundg (gk-1);case measure=>omega
      exact⟨k+1,by omega,by omega,by go_num,HS2.o,(HB1.block _ sz).trans HX.o,HB.o.trans (HB1.mono hzr)⟩
    . have hq':((zaj c t:Int) != (ty:Int))=true:=(by simp;omega);have HS2:Hid (zcv c ty ts=false):=(by unfold Hid;rw[<- hS];simp[hq]);go_wp2_with (go_at_call 175;refine HT.o.mono ?_;rintro e w1 ⟨rfl,HB1⟩);go_ret;exact⟨by rw[HS2.o];rfl,HB.o.trans (HB1.mono hzr)⟩
  . have hS:zcv c ty ts=true:=by rw[<- HS.o,List.drop_of_length_le (by omega)];rfl
    have HS2:=za hS;go_wp2_with fail;go_ret;exact⟨by rw[HS2.o];rfl,HB.o⟩
theorem zky (a b:Nat):Ending.returned (.bool ((a:Int)==(b:Int)))=Ending.returned (.bool (a==b)):=by
 have:((a:Int)==(b:Int))=(a==b):=by rw[Bool.eq_iff_iff];simp;omega
 rw[this]
theorem zfS (hc:zbr c)(t1 t2:Tm)(ts:List Tm)(v:Value)(w:World)(hA:zdA w N (t1::t2::ts) v)(HSc:ScV w N c ev nv)(hN:N<=w.heap.size)(hO1:zdg c t1)(hO2:zdg c t2) :
 xK 177 #[.agg #[ev,nv],v] w (λe w'=>e=.returned (.bool (zc9 c (t1::t2::ts)))/\xB w w'):=by
 obtain⟨x,cp,rfl,hcp,hmx,hin⟩:=hA.ex;obtain⟨g,o,rfl,hgN,hat⟩:=hin (by simp);obtain⟨u1,c1,T1⟩:=hat 0 t1 rfl;obtain⟨u2,c2,T2⟩:=hat 1 t2 rfl;obtain⟨xe,cpe,nb,rfl,rfl,hnb⟩:=HSc.shape;have HT1:=za (λW (HB:xB w W)=>zcQ hc t1 (xP u1) W (T1.old (zm HB hN)) (HSc.old (zm HB hN)) (by have:=HB.size;omega) hO1);have HT2:=za (λW (HB:xB w W)=>zcQ hc t2 (xP u2) W (T2.old (zm HB hN)) (HSc.old (zm HB hN)) (by have:=HB.size;omega) hO2);have HE:Hid (zc9 c (t1::t2::ts)=(zaj c t1==zaj c t2)):=by unfold Hid zc9;rw[zbh,zbh,zbh]
 have hgz:g<w.heap.size:=by omega
 rw[Nat.add_zero] at c1;generalize zaj c t1=y1 at *;generalize zaj c t2=y2 at *;have a0:((xD g o):Addr).add 0=⟨g,o,none⟩:=by simp[Addr.add]
 have a1:((xD g o):Addr).add 1=⟨g,o+1,none⟩:=by simp[Addr.add]
 have n0:0<(t1::t2::ts).length:=by simp
 have n1:1<(t1::t2::ts).length:=by simp
 have l0:(0:Int)<((t1::t2::ts).length:Int):=by simp;omega
 have l1:(1:Int)<((t1::t2::ts).length:Int):=by simp;omega
 generalize (t1::t2::ts).length=nn at *;go_enter func177,ntmps177;go_upto_region 1 with fail;refine zn (λW=>(xH W w.heap.size #[xE xe c cpe,xP nb] 205)/\xB w W) ⟨zc w _,zq w _⟩ ?_;rintro W ⟨hs,HB⟩;obtain⟨s0,s1,sf,sz⟩:=zp hs;have c1':=zd HB c1 hgz;have c2':=zd HB c2 hgz;have hzW:=HB.size;have HD1:=za (HT1.o W.drew (zo HB))
 go_region_held3 (λw'=>w'.cell? (xD w.heap.size 0)=some (xE xe c cpe)/\w'.cell? (xD w.heap.size 1)=some (xP nb)/\w'.cell? (xD g o)=some (xP u1)/\w'.cell? (xD g (o+1))=some (xP u2))
  (first|(with_reducible (refine⟨?_,?_,?_,?_⟩ <;> repeat (first|assumption|refine zg ?_|refine zj _ ?_|refine zk (by omega) ?_|refine zd HB2.o ?_ (by first|omega|(rw[zsb];omega))|refine zd HB1.o ?_ (by first|omega|(rw[zsb];omega)))))|go_keep)
  (first
    | (go_at_call 175;refine HD2.o.mono ?_;rintro e w2 ⟨rfl,hB2⟩;have HB2:=za hB2)
    | (go_at_call 175;refine HD1.o.mono ?_;rintro e w1 ⟨rfl,hB1⟩;have HB1:=za (zw hB1);(have hzw1:W.heap.size<=w1.heap.size:=hB1.size);have HD2:=za (HT2.o w1 (HB.trans (HB1.o.mono hzW)))))
 all_goals go_wp2_with fail
 all_goals go_ret
 all_goals exact⟨by rw[HE.o];exact zky y1 y2,(HB.trans (HB1.o.mono hzW)).trans (HB2.o.mono (by omega))⟩
end
section
variable {N k:Nat} {c:Sc} {t:Tm} {v:Value}
attribute [local go_sem ↓] Go.wp_at_zero Go.wp_at_succ
theorem zo0 {n:Nat}(h:arB k n=true):k<=23:=by
 rcases Nat.lt_or_ge 23 k with h'|h'
 . exfalso;unfold arB at h;simp only[show ¬k<=3 by omega,show ¬k=4 by omega,show ¬k=5 by omega,show ¬k=6 by omega,show ¬k<=8 by omega,show ¬k=9 by omega,show ¬k<=11 by omega,show ¬k<=23 by omega,if_false] at h;cases h
 . exact h'
theorem zmE (w:World)(h:TT w N t v)(ha:arB t.k t.ts.length=true) :
 xK 178 #[v] w (λe w'=>e=.returned (.bool (zcG t))/\w=w'):=by
 obtain⟨b,args,vs,rfl,hb,hblk,hown,hlen,hsub,_⟩:=h.ptr;obtain⟨h0,h1,h2,h3,h4,h5,hf,hz⟩:=zt hblk;obtain⟨k,a,s,nm,n,ts⟩:=t;simp only[Tm.k,Tm.ts] at *;have h23:=zo0 ha;by_cases h10:k=10
 . subst h10;have hl:0<ts.length:=by simp[arB] at ha;omega
   obtain⟨u,hu⟩:∃u,ts[0]?=some u:=⟨_,zsc hl⟩;obtain⟨xa,cpa,rfl⟩:=zB hown;rw[hlen] at h5 hown;obtain⟨g,ub,rfl,hcu,hTu,_⟩:=TT.arg (t:=.mk 10 a s nm n ts) hown hlen hsub hu;obtain⟨_,_,_,e,_,hub,_⟩:=hTu.ptr;cases e;obtain⟨k0,_⟩:=zt hub;have he:zcG (.mk 10 a s nm n ts)=(u.k==0):=by
    unfold zcG;cases ts with
    | nil=>simp at hl
    | cons x ts=>simp at hu;subst hu;simp[Tm.k,Tm.ts]
   have HE:=za he;generalize u.k=uk at *;by_cases h0':uk=0
   . subst h0';go_enter func178,ntmps178;go_wp2_with fail;go_ret;exact⟨by rw[HE.o];rfl,rfl⟩
   . have d0:((uk:Int)==0)=false:=(by simp;omega);go_enter func178,ntmps178;go_wp2_with fail;go_ret;exact⟨by rw[HE.o];simp[h0'],rfl⟩
 . have hc:k=0∨k=1∨k=2∨(k≠0/\k≠1/\k≠2):=by omega
   rcases hc with rfl|rfl|rfl|⟨c1,c2,c3⟩
   . go_enter func178,ntmps178;go_wp2_with fail;go_ret;exact⟨rfl,rfl⟩
   . go_enter func178,ntmps178;go_wp2_with fail;go_ret;exact⟨rfl,rfl⟩
   . go_enter func178,ntmps178;go_wp2_with fail;go_ret;exact⟨rfl,rfl⟩
   . have d1:((k:Int)==0)=false:=(by simp;omega);have d2:((k:Int)==1)=false:=(by simp;omega);have d3:((k:Int)==2)=false:=(by simp;omega);have d4:((k:Int)==10)=false:=(by simp;omega);have HE:Hid (zcG (.mk k a s nm n ts)=false):=(by unfold Hid zcG;exact (if_neg (show ¬(k=0∨k=1∨k=2) by omega)).trans (if_neg (show ¬k=10 from h10)));go_enter func178,ntmps178;go_wp2_with fail;go_ret;exact⟨by rw[HE.o];rfl,rfl⟩
def zci (k:Nat):Bool:=zaJ k&&k != 3
theorem zj3 (w:World)(h:TT w N t v) :
 xK 112 #[v] w (λe w'=>e=.returned (.bool (zci t.k))/\w=w'):=by
 have HN:=za (zf2 w h);obtain⟨b,args,vs,rfl,hb,hblk,_⟩:=h.ptr;obtain⟨h0,h1,h2,h3,h4,h5,hf,hz⟩:=zt hblk;generalize t.k=k at *;cases hn:zaJ k with
 | false => rw[hn] at HN;have HE:Hid (zci k=false):=(by unfold Hid zci;rw[hn];rfl);go_enter func112,ntmps112;go_wp2_with (go_at_call 106;refine HN.o.mono ?_;rintro e w1 ⟨rfl,rfl⟩);go_ret;exact⟨by rw[HE.o];rfl,rfl⟩
 | true =>
   rw[hn] at HN;by_cases h3':k=3
   . subst h3';go_enter func112,ntmps112;go_wp2_with (go_at_call 106;refine HN.o.mono ?_;rintro e w1 ⟨rfl,rfl⟩);go_ret;exact⟨rfl,rfl⟩
   . have d1:((k:Int) != 3)=true:=(by simp;omega);have HE:Hid (zci k=true):=(by unfold Hid zci;rw[hn];simp[h3']);go_enter func112,ntmps112;go_wp2_with (go_at_call 106;refine HN.o.mono ?_;rintro e w1 ⟨rfl,rfl⟩);go_ret;exact⟨by rw[HE.o];rfl,rfl⟩
theorem ze3 {ts:List Tm}{vs:List Vr}{v:Vr}(ht:ts[k]?=some t)(hv:vs[k]?=some v):zaQ c (ts.drop k) (vs.drop k)=if (zaj c t != tyV v)=true then false else zaQ c (ts.drop (k+1)) (vs.drop (k+1)):=by obtain⟨h1,h2⟩:=List.getElem?_eq_some_iff.1 ht;obtain⟨h3,h4⟩:=List.getElem?_eq_some_iff.1 hv;rw[List.drop_eq_getElem_cons h1,List.drop_eq_getElem_cons h3,h2,h4];rfl
theorem zlM {d:Sc}{ev nv:Value}(hc:zbr c)(t:Tm)(v:Value)(w:World)(hT:TT w N t v)(HSc:ScV w N c ev nv)(hN:N<=w.heap.size)(HO:zdg c t)(hd:c.called t.s=some d)(hdi:d.nd.ins=t.ts.length) :
 xK 179 #[.agg #[ev,nv],v] w (λe w'=>e=.returned (.bool (zaQ c t.ts d.nd.vars))/\xB w w'):=by
 obtain⟨b,args,vs,rfl,hb,HBk,hown,hlen,hsub,hgs⟩:=hT.ptr;have hdw:=(hc.called hd).1.nd;have HA:=za (zkm hown hlen hsub hgs);obtain⟨xa,cpa,rfl⟩:=zB hown;obtain⟨xe,cpe,nb,rfl,rfl,hnb⟩:=HSc.shape;have hbz:=ze HBk;rw[hlen] at HBk HA;have hio:=hdw.io;have hou:=hdw.outs;have hfw:=hdw.few;go_enter func179,ntmps179;go_upto_region 1 with fail;refine zn (λW=>W.heap[w.heap.size]?=some (.cells #[xE xe c cpe,xP nb] 205 (0,0))/\xB w W) ⟨zc w _,zq w _⟩ ?_;rintro W ⟨Hs,HB⟩;obtain⟨s0,s1,sf,sz⟩:=zp Hs;obtain⟨m0,m1,m2,m3,m4,m5,mf,mz⟩:=zt ((HB.block b hbz).trans HBk);have hzW:=HB.size;have PRE:∀W,xB w W->ScV W N c (xE xe c cpe) (xP nb):=λW HB=>HSc.old (zm HB hN);have HC1:=za (zah t.s (t.nm:Int) W.drew (PRE W.drew (zo HB)) (by show N<=W.heap.size;omega) hc.few hd);have HC2:=za (λo=>zah t.s (t.nm:Int) (W.alloc o).drew (PRE _ (zo (HB.alloc (by omega) o))) (by show N<=(W.alloc o).heap.size;simp;omega) hc.few hd)
 go_region_held3 (λw'=>w'.cell? (xD w.heap.size 0)=some (xE xe c cpe)/\w'.cell? (xD w.heap.size 1)=some (xP nb)/\w'.cell? (xD b 2)=some (.string t.s)/\w'.cell? (xD b 3)=some (xI t.nm))
  (first|(with_reducible (refine⟨?_,?_,?_,?_⟩ <;> repeat (first|assumption|refine zg ?_|refine zj _ ?_|refine zk (by omega) ?_|refine zd HB1.o ?_ (by first|omega|(rw[zsb];omega)))))|go_keep)
  (first
    | (go_at_call 100;refine HC1.o.mono ?_;rintro e w1 ⟨x2,cp2,n2,rfl,hsc,hB1⟩;have HB1:=za (zw hB1);have HS2:=za hsc)
    | (go_at_call 100;refine (HC2.o _).mono ?_;rintro e w1 ⟨x2,cp2,n2,rfl,hsc,hB1⟩;have HB1:=za (zw hB1);have HS2:=za hsc;obtain⟨y0,y1,yf,yz⟩:=zp ((HB1.o.block W.heap.size (by rw[zsb];omega)).trans (zc W _))))
 all_goals go_upto_region 2 with fail
 refine zn (λW2=>Got w N d w1.heap.size n2 x2 cp2 W2/\xH W2 w.heap.size #[xE xe c cpe,xP nb] 205) ⟨zow HB HB1.o HS2.o hN,(Below.heap_alloc _ _ _ (by have:=HB1.o.size;omega)).trans ((HB1.o.block _ sz).trans Hs)⟩ ?_;generalize w1.heap.size=wz;rotate_left;refine zn (λW2=>Got w N d W.heap.size n2 x2 cp2 W2/\xH W2 w.heap.size #[xE xe c cpe,xP nb] 205) ⟨zos HB HB1.o HS2.o hN,(zr (by omega) rfl).trans ((zr (by omega) rfl).trans ((HB1.o.block _ (by rw[zsb];omega)).trans ((Below.heap_alloc _ _ _ sz).trans Hs)))⟩ ?_;generalize W.heap.size=wz
 all_goals
  rintro W2 ⟨HG,HSb⟩;obtain⟨t0,t1,tf,tz⟩:=zp HG.box;obtain⟨p0,p1,pf,pz⟩:=zp HSb;obtain⟨k0,k1,k2,k3,k4,k5,kf,kz⟩:=zt ((HG.bel.block b hbz).trans HBk);have hzz:=HG.bel.size;obtain⟨n2',vs2,qv2,xs2,e9,HNt⟩:=HG.sc.nd;cases e9;obtain⟨xv,cpv,rfl⟩:=zB HNt.vown;have hn2:=HNt.lo;obtain⟨_,_,e1,_,h16,_⟩:=HA.o.ex;simp only[Value.slice.injEq] at e1;obtain⟨rfl,_,rfl⟩:=e1;go_wp2_with fail;go_loopg [24] (t.ts.length+1) (λj i wr=>∃k:Nat,k+j=t.ts.length+1/\k<=t.ts.length/\i=xI k/\Hid (zaQ c (t.ts.drop k) (d.nd.vars.drop k)=zaQ c t.ts d.nd.vars)/\Hid (xB W2 wr));case atStart=>exact⟨0,by omega,Nat.zero_le _,rfl,rfl,Below.refl _ _⟩
  case round =>
   obtain⟨k,hkj,hk,rfl,HS,HBr⟩:=hrel;have hBw:xB w wr:=HG.bel.trans (HBr.o.mono hzz);have hzr:=HBr.o.size;by_cases hlt:k<t.ts.length
   . obtain⟨u,hu⟩:∃u,t.ts[k]?=some u:=⟨_,zsc hlt⟩;obtain⟨v,hv⟩:∃v,d.nd.vars[k]?=some v:=⟨_,zsc (by omega)⟩;obtain⟨x',cp',e1,_,_,hin⟩:=(HA.o.old (zm hBw hN)).ex;simp only[Value.slice.injEq] at e1;obtain⟨rfl,_,rfl⟩:=e1;obtain⟨g,o,rfl,hgN,hat⟩:=hin (by intro e;rw[e] at hlt;simp at hlt);obtain⟨ub,hcu,hTu⟩:=hat k u hu;have hnt2:=HNt.old (zm HBr.o (by omega:N<=W2.heap.size));obtain⟨gv,rfl,_,_,c2,_⟩:=zaM hnt2.vown hv;have hgv:=hnt2.vlo gv rfl;obtain⟨q0,q1,q2,q3,q4,q5,qf,qz⟩:=zt hnt2.blk;have b0:=zd HBr.o p0 pz;have b1:=zd HBr.o p1 pz;have d1:=zd HBr.o t1 tz;have HT:=za (zcQ hc u (xP ub) wr.drew (hTu.old (λ_ _=>rfl)) (HSc.old (w':=wr.drew) (zm (zo hBw) hN)) (by show N<=wr.heap.size;omega) (HO.sub (List.mem_of_getElem? hu)));have hS:=ze3 (c:=c) hu hv;rw[HS.o] at hS;have i0:(0:Int)<=(k:Int):=(by omega);have i1:(k:Int)<(d.nd.vars.length:Int):=(by omega);have hty:tyV v=zaK v:=rfl;rw[hty] at hS;have hgvz:gv<wr.heap.size:=(by omega);have hnz:n2<wr.heap.size:=(by omega);generalize zaj c u=y1 at *;generalize zaK v=y2 at *;by_cases hq:y1=y2
     . have hq':((y1:Int) != (y2:Int))=false:=(by simp[hq]);rw[if_neg (by simp[hq])] at hS;have HS2:=za hS;go_upto_region 5 with fail
       go_region_held3 (λw'=>w'.cell? (xD w.heap.size 0)=some (xE xe c cpe)/\w'.cell? (xD w.heap.size 1)=some (xP nb)/\w'.cell? (xD wz 1)=some (xP n2)/\w'.cell? (xD n2 2)=some (xS gv d.nd.vars.length cpv)/\w'.cell? (xD gv (k*7+2))=some (xI y2))
        (first|(with_reducible (refine⟨?_,?_,?_,?_,?_⟩ <;> repeat (first|assumption|refine zg ?_|refine zj _ ?_|refine zk (by omega) ?_|refine zd HB1.o ?_ (by first|omega|(rw[zsb];omega)))))|go_keep)
        (first
          | (go_at_call 175;refine HT.o.mono ?_;rintro e w8 ⟨rfl,hB1⟩;have HB1:=za (zw hB1)))
       all_goals go_wp2_with fail
       all_goals
        go_roundg (gk-1);case measure=>omega
        exact⟨k+1,by omega,by omega,by go_num,HS2.o.symm,HBr.o.trans (HB1.o.mono hzr)⟩
     . have hq':((y1:Int) != (y2:Int))=true:=(by simp;omega);rw[if_pos (by simp[hq])] at hS;have HS2:=za hS;go_upto_region 5 with fail
       go_region_held3 (λw'=>w'.cell? (xD w.heap.size 0)=some (xE xe c cpe)/\w'.cell? (xD w.heap.size 1)=some (xP nb)/\w'.cell? (xD wz 1)=some (xP n2)/\w'.cell? (xD n2 2)=some (xS gv d.nd.vars.length cpv)/\w'.cell? (xD gv (k*7+2))=some (xI y2))
        (first|(with_reducible (refine⟨?_,?_,?_,?_,?_⟩ <;> repeat (first|assumption|refine zg ?_|refine zj _ ?_|refine zk (by omega) ?_|refine zd HB1.o ?_ (by first|omega|(rw[zsb];omega)))))|go_keep)
        (first
          | (go_at_call 175;refine HT.o.mono ?_;rintro e w8 ⟨rfl,hB1⟩;have HB1:=za (zw hB1)))
       all_goals go_wp2_with fail
       all_goals go_ret
       all_goals exact⟨by rw[HS2.o];rfl,hBw.trans (HB1.o.mono (by omega))⟩
   . have hS:zaQ c t.ts d.nd.vars=true:=(by rw[<- HS.o,List.drop_of_length_le (by omega)];rfl);have HS2:=za hS;go_wp2_with fail;go_ret;exact⟨by rw[HS2.o];rfl,hBw⟩
end
end Go.Proofs.YtmfkofhgdjechaaGreatDoor
