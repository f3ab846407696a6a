/- Part 40 of the proof: CanD CanE. -/
import Derived.Lib.LaidTab
import Derived.Test.YtmfkofhgdjechaaGreatDoorK38
set_option maxRecDepth 100000
set_option maxHeartbeats 8000000
namespace Go.Proofs.YtmfkofhgdjechaaGreatDoor
open Go.Proofs.Tryz
open Go.RowKit
section
variable {ts:List ByteArray} {B lb:Nat} {tv0:Value} {W w0:World}
theorem LnI.box (h:LnI lb B w0 tv0 W ts)(o:Obj):∃tv,LnI lb B (W.alloc o) tv (W.alloc o) ts/\(∀j,tv.ownBlock=some j->j<W.heap.size)/\lb<W.heap.size/\∀(w':World) (ts':List ByteArray),LnI lb B (W.alloc o) tv w' ts'->LnI lb B w0 tv0 w' ts':=by obtain⟨tv,h1,h2⟩:=h.ln;have hz:=h2.fr.size;have:=h.le;have:=h.lt;refine⟨tv,LnI.start (h1.alloc o) h.lt (by rw[zsb];omega),λj e=>(h1.own.lt j e).2,by omega,λw' ts' k=>?_⟩;obtain⟨tv',k1,k2⟩:=k.ln;exact⟨h.lt,h.le,h.lo,tv',k1,(h2.alloc o).trans k2⟩
theorem LnI.box2 (h:LnI lb B w0 tv0 W ts)(o o':Obj):∃tv,LnI lb B ((W.alloc o).alloc o') tv ((W.alloc o).alloc o') ts/\(∀j,tv.ownBlock=some j->j<W.heap.size)/\lb<W.heap.size/\∀(w':World) (ts':List ByteArray),LnI lb B ((W.alloc o).alloc o') tv w' ts'->LnI lb B w0 tv0 w' ts':=by obtain⟨tv,h1,h2⟩:=h.ln;have hz:=h2.fr.size;have:=h.le;have:=h.lt;refine⟨tv,LnI.start ((h1.alloc o).alloc o') h.lt (by simp only[zsb];omega),λj e=>(h1.own.lt j e).2,by omega,λw' ts' k=>?_⟩;obtain⟨tv',k1,k2⟩:=k.ln;exact⟨h.lt,h.le,h.lo,tv',k1,((h2.alloc o).alloc o').trans k2⟩
def vrV (v:Vr):Value:=.agg #[.string v.nm,xI v.a,xI (zaK v:Nat),xI (zaA v:Nat),xI v.on,.string v.ck,xI v.ca]
theorem zvw (h:LnI lb B w0 tv0 W ts)(v:Vr)(hm:(ts++zu7 v).length<=10000000000) :
 xK 80 #[xP lb,vrV v] W (zu1 lb B w0 tv0 (ts++zu7 v)):=by
 obtain⟨tv,h1,h2⟩:=h.ln;have:=h.le;have hz:=h2.fr.size;refine (zvV lb B W tv ts v.nm v.ck v.a (zaA v) v.on v.ca (zaK v) v.bl rfl h1 h.lt (by omega) (by simpa [zu7] using hm)).mono ?_;rintro e w' ⟨rfl,tv',k1,k2⟩;exact⟨rfl,h.lt,h.le,h.lo,tv',k1,h2.trans k2⟩
theorem zwp (h:LnI lb B w0 tv0 W ts)(v:Vr)(hm:(ts++zu9 v).length<=10000000000) :
 xK 82 #[xP lb,vrV v] W (zu1 lb B w0 tv0 (ts++zu9 v)):=by
 obtain⟨tv,hb,ht,hlb,HB⟩:=h.box (.cells #[.string v.nm,xI v.a,xI (zaK v:Nat),xI (zaA v:Nat),xI v.on,.string v.ck,xI v.ca] 156);have hm1:(ts++zu7 v).length<=10000000000:=by simp only[zu9,List.length_append] at hm ⊢;omega
 have HD:=zvw hb v hm1;have HK:∀(w':World) (ts':List ByteArray),LnI lb B _ tv w' ts'->xH w' W.heap.size #[.string v.nm,xI v.a,xI (zaK v:Nat),xI (zaA v:Nat),xI v.on,.string v.ck,xI v.ca] 156:=λw' ts' h'=>h'.kept (zc W _) (by omega) (λe=>by have:=ht _ e;omega);have HM:=hm;clear h hb hm hm1 ht;unfold vrV at HD ⊢;go_enter func82,ntmps82;go_wp2_with (go_at_call 80;refine HD.mono ?_);rintro e w1 ⟨rfl,H1⟩;have hb1:=HK _ _ H1;obtain⟨c0,c1,c2,c3,c4,c5,c6,cf,cz⟩:=zbZ hb1;clear hb1;have hsg:zaA v=0∨zaA v=1∨zaA v=2:=by unfold zaA;split;split;simp;simp;simp
 rcases hsg with hs|hs|hs
 . rw[hs] at c3;have HEl:zu9 v=zu7 v++[⟨#[59]⟩]:=by simp[zu9,onW,hs]
   rw[HEl] at HM;clear hs HD;go_wp2_with (go_at_call 77;refine (zu0 H1 [⟨#[59]⟩] 1 rfl (by simpa using HM) _ rfl).mono ?_;rintro e w2 ⟨rfl,h2⟩;have H2:=h2;clear h2);first|go_end0|refine bodyPost_ret (results_none rfl _ _ _) rfl ?_
   exact⟨rfl,HB _ _ (by rw[HEl];have hh:=H2;rw[List.append_assoc] at hh;exact hh)⟩
 . rw[hs] at c3;have HEl:zu9 v=zu7 v++([⟨#[111,110]⟩,v.ck]++[⟨#[59]⟩]):=by simp[zu9,onW,hs]
   rw[HEl] at HM;clear hs HD;go_wp2_with (first|(revert H2;intro H2;go_at_call 77;refine (zu0 H2 [⟨#[59]⟩] 1 rfl (by simpa using HM) _ rfl).mono ?_;rintro e w3 ⟨rfl,H3⟩)|(go_at_call 77;refine (zu0 H1 [⟨#[111,110]⟩,v.ck] 2 rfl (by have:=HM;simp only[List.length_append,List.length_cons,List.length_nil] at this ⊢;omega) _ rfl).mono ?_;rintro e w2 ⟨rfl,h2⟩;have H2:=h2;clear h2));first|go_end0|refine bodyPost_ret (results_none rfl _ _ _) rfl ?_
   exact⟨rfl,HB _ _ (by rw[HEl];have hh:=H3;rw[List.append_assoc,List.append_assoc] at hh;exact hh)⟩
 . rw[hs] at c3;have HEl:zu9 v=zu7 v++([⟨#[111,110]⟩,⟨#[110,111,116]⟩,v.ck]++[⟨#[59]⟩]):=by simp[zu9,onW,hs]
   rw[HEl] at HM;clear hs HD;go_wp2_with (first|(revert H2;intro H2;go_at_call 77;refine (zu0 H2 [⟨#[59]⟩] 1 rfl (by simpa using HM) _ rfl).mono ?_;rintro e w3 ⟨rfl,H3⟩)|(go_at_call 77;refine (zu0 H1 [⟨#[111,110]⟩,⟨#[110,111,116]⟩,v.ck] 3 rfl (by have:=HM;simp only[List.length_append,List.length_cons,List.length_nil] at this ⊢;omega) _ rfl).mono ?_;rintro e w2 ⟨rfl,h2⟩;have H2:=h2;clear h2));first|go_end0|refine bodyPost_ret (results_none rfl _ _ _) rfl ?_
   exact⟨rfl,HB _ _ (by rw[HEl];have hh:=H3;rw[List.append_assoc,List.append_assoc] at hh;exact hh)⟩
theorem zwT:zH 79:=λ_ _=>by kernel_rfl
theorem zw2:zH 81:=λ_ _=>by kernel_rfl
theorem zwj {N:Nat}(h:LnI lb B w0 tv0 W ts)(hN:N<=lb)(n:Nod)(nb:Nat)(vs ev:Value)(xs:List Value)(hT:NT w0 N n nb vs ev xs)(b1 b2:Nat)
 (hb1:xH w0 b1 #[xP lb] 140) (hb2:xH w0 b2 #[xP nb] 78) (H1:¬b1=lb) (h2:¬b2=lb) (t1:¬tv0.ownBlock=some b1) (t2:¬tv0.ownBlock=some b2)
 (i:Nat) (v:Vr) (hi:n.vars[i]?=some v) (hm:(ts++zu7 v).length<=10000000000) :
 xK 79 (#[xI i]++#[xP b1,xP b2]) W (zu1 lb B w0 tv0 (ts++zu7 v)):=by
 obtain⟨p0,pf,pz⟩:=zu (h.kept hb1 H1 t1);obtain⟨q0,qf,qz⟩:=zu (h.kept hb2 h2 t2);have hT':=hT.old (h.old hN);obtain⟨n0,n1,n2,n3,n4,n5,nf,nz⟩:=zt hT'.blk;obtain⟨x,cp,rfl⟩:=zB hT'.vown;obtain⟨g,rfl,v0,v1,v2,v3,v4,v5,v6⟩:=zaM hT'.vown hi;have h16:=hT.few;have hil:=(List.getElem?_eq_some_iff.1 hi).1;have HKp:(∀(w':World) (ts':List ByteArray),LnI lb B w0 tv0 w' ts'->w'.cell? (xD b1 0)=some (xP lb)/\w'.cell? (xD b2 0)=some (xP nb)/\w'.cell? (xD nb 2)=some (xS g n.vars.length cp)/\w'.cell? (xD g (i*7))=some (.string v.nm)/\w'.cell? (xD g (i*7+1))=some (xI v.a)/\w'.cell? (xD g (i*7+2))=some (xI (zaK v:Nat))/\w'.cell? (xD g (i*7+3))=some (xI (zaA v:Nat))/\w'.cell? (xD g (i*7+4))=some (xI v.on)/\w'.cell? (xD g (i*7+5))=some (.string v.ck)/\w'.cell? (xD g (i*7+6))=some (xI v.ca)):=by intro w' ts' h';have hT2:=hT.old (h'.old hN);obtain⟨g',e',u0,u1,u2,u3,u4,u5,u6⟩:=zaM hT2.vown hi;cases e';exact⟨(zu (h'.kept hb1 H1 t1)).1,(zu (h'.kept hb2 h2 t2)).1,(zt hT2.blk).2.2.1,u0,u1,u2,u3,u4,u5,u6⟩
 have HD:=zvw h.drew v hm;clear h hT' hb1 hb2 hT hi;unfold vrV at HD
 show Calls prog _ #[xI i,xP b1,xP b2] W _;go_enter func79,ntmps79;go_region_held3 (λw'=>w'.cell? (xD b1 0)=some (xP lb)/\w'.cell? (xD b2 0)=some (xP nb)/\w'.cell? (xD nb 2)=some (xS g n.vars.length cp)/\w'.cell? (xD g (i*7))=some (.string v.nm)/\w'.cell? (xD g (i*7+1))=some (xI v.a)/\w'.cell? (xD g (i*7+2))=some (xI (zaK v:Nat))/\w'.cell? (xD g (i*7+3))=some (xI (zaA v:Nat))/\w'.cell? (xD g (i*7+4))=some (xI v.on)/\w'.cell? (xD g (i*7+5))=some (.string v.ck)/\w'.cell? (xD g (i*7+6))=some (xI v.ca)) (first|go_keep|exact HKp _ _ H1) (first|(go_at_call 80;refine HD.mono ?_;rintro e w1 ⟨rfl,H1⟩));all_goals first|go_end0|refine bodyPost_ret (results_none rfl _ _ _) rfl ?_
 all_goals exact⟨rfl,H1⟩
end
section
variable {ts:List ByteArray} {B N b i lb:Nat} {S:Nat->Addr} {t u0 u1:Tm} {tv0:Value} {W w w0:World}
theorem zuZ {w':World}(h:Old N w w')(hb:b<N):w'.cell? (xD b i)=w.cell? ⟨b,i,none⟩:=by have:=h b hb;simp only[World.cell?,this]
theorem zvo {k:Nat}(h:k<24):zcY[k]?=some (wd k):=by have:zcY.length=24:=rfl;unfold wd;rw[zsc (by omega)];rfl
theorem TT.look {u:Tm}(h:TT w N t (xP b))(hu:t.ts[i]?=some u):∃g cp ub,xC w b 5 (xS g t.ts.length cp)/\xC w g i (xP ub)/\TT w N u (xP ub)/\g<N:=by obtain⟨b',args,vs,e,hb,hblk,hown,hlen,hsub,hgs⟩:=h.ptr;cases e;obtain⟨h0,h1,h2,h3,h4,h5,hf,hz⟩:=zt hblk;obtain⟨x,cp,rfl⟩:=zB hown;obtain⟨g,ub,rfl,hc,hT,_⟩:=TT.arg hown hlen hsub hu;exact⟨g,cp,ub,hlen▸h5,hc,hT,hgs g rfl⟩
theorem TT.six (h:TT w N t (xP b)):xC w b 0 (xI t.k)/\xC w b 2 (.string t.s)/\xC w b 4 (xI t.n)/\b<w.heap.size/\b<N:=by obtain⟨b',args,vs,e,hb,hblk,hown,hlen,hsub,hgs⟩:=h.ptr;cases e;obtain⟨h0,h1,h2,h3,h4,h5,hf,hz⟩:=zt hblk;exact⟨h0,h2,h4,hz,hb⟩
structure Kn (S:Nat->Addr) (w:World):Prop where
 gl:Gl S w
 tab:Lib.TabIs prog w "internal/strconv.uint64pow10" .u64 Lib.pow10Tab
theorem Tryz.gPow:prog.globalNamed "internal/strconv.uint64pow10"=some 18:=by kernel_rfl
theorem Kn.ln (h:Kn S w0)(hl:LnI lb B w0 tv0 W ts)(hlb:21<=lb):Kn S W:=by
 obtain⟨tv,_,h2⟩:=hl.ln;have:=hl.lt;refine⟨h.gl.of h2.fr (λk hk=>?_),?_⟩
 . rcases hk with rfl|hk
   . exact hlb
   . have:=(hl.lo k hk).1;omega
 . have h3:=h.tab;unfold Lib.TabIs World.var? at h3 ⊢;rw[Tryz.gPow] at h3 ⊢;simp only[Option.bind_some] at h3 ⊢;rw[hl.old (N:=21) hlb _ (by decide)];exact h3
def zvc (S:Nat->Addr)(t:Tm):Prop:=∀(lb B N:Nat) (w0:World) (tv0:Value) (W:World) (ts:List ByteArray) (v:Value),N<=lb->21<=N->TT w0 N t v->Kn S w0->LnI lb B w0 tv0 W ts->(ts++exT t).length<=10000000000->xK 142 #[xP lb,v] W (zu1 lb B w0 tv0 (ts++exT t))
theorem zvT (HE:zvc S t)(lb B N:Nat)(w0:World)(tv0:Value)(W:World)(ts:List ByteArray)(v:Value)(hN:N<=lb)(h21:21<=N)(HT:TT w0 N t v)(HK:Kn S w0)(H0:LnI lb B w0 tv0 W ts)(hm:(ts++zvi t.k (exT t)).length<=10000000000) :
 xK 245 #[xP lb,v] W (zu1 lb B w0 tv0 (ts++zvi t.k (exT t))):=by
 obtain⟨b,_,_,rfl,_⟩:=HT.ptr;obtain⟨c0,c2,c4,cz,_⟩:=(HT.old (H0.old hN)).six;have HM:=za hm;by_cases hk:t.k=4
 . have el:zvi t.k (exT t)=[lpW]++(exT t++[rpW]):=by unfold zvi;rw[if_pos hk]
   rw[el] at HM ⊢;rw[hk] at c0;go_enter func245,ntmps245;have tk:=trivial;go_wp2_with (clear tk;go_at_call 77;refine (zu0 H0 [lpW] 1 rfl (by have:=HM.o;simp only[List.length_append,List.length_cons,List.length_nil] at this ⊢;omega) _ rfl).mono ?_;rintro e w1 ⟨rfl,H1⟩);have tk:=trivial;go_wp2_with (clear tk;go_at_call 142;refine (HE lb B N w0 tv0 _ _ _ hN h21 HT HK H1 (by have:=HM.o;simp only[List.length_append,List.length_cons,List.length_nil] at this ⊢;omega)).mono ?_;rintro e w2 ⟨rfl,H2⟩);have tk:=trivial;go_wp2_with (clear tk;go_at_call 77;refine (zu0 H2 [rpW] 1 rfl (by have:=HM.o;simp only[List.length_append,List.length_cons,List.length_nil] at this ⊢;omega) _ rfl).mono ?_;rintro e w3 ⟨rfl,H3⟩);first|go_end0|refine bodyPost_ret (results_none rfl _ _ _) rfl ?_
   exact⟨rfl,by simpa [List.append_assoc] using H3⟩
 . have el:zvi t.k (exT t)=exT t:=by unfold zvi;rw[if_neg hk]
   rw[el] at HM ⊢;have hk':¬((t.k:Int)=4):=(by omega);go_enter func245,ntmps245;have tk:=trivial;go_wp2_with (clear tk;go_at_call 142;refine (HE lb B N w0 tv0 _ _ _ hN h21 HT HK H0 HM.o).mono ?_;rintro e w2 ⟨rfl,H2⟩);first|go_end0|refine bodyPost_ret (results_none rfl _ _ _) rfl ?_
   exact⟨rfl,H2⟩
theorem zx3 (hE:∀u∈t.ts,zvc S u)(hN:N<=lb)(h21:21<=N)(hT:TT w0 N t (xP b))(hKn:Kn S w0)(h:LnI lb B w0 tv0 W ts)(us:List Tm)(hts:t.ts=us)(h0:0<us.length)(L:List ByteArray)(el:opW t.k t.s (us.map Tm.k) (exL us)=L)(hm:(ts++opW t.k t.s (t.ts.map Tm.k) (exL t.ts)).length<=10000000000)
 (k:∀(g cp:Nat) (ub:Nat->Nat),Hid (∀(w':World) (ts':List ByteArray),LnI lb B w0 tv0 w' ts'->xC w' b 0 (xI t.k)/\xC w' b 2 (.string t.s)/\xC w' b 5 (xS g us.length cp))->Hid (∀i u,us[i]?=some u->(∀(w':World) (ts':List ByteArray),LnI lb B w0 tv0 w' ts'->xC w' g i (xP (ub i)))/\(∀(w':World) (ts':List ByteArray),LnI lb B w0 tv0 w' ts'->(ts'++exT u).length<=10000000000->xK 142 #[xP lb,xP (ub i)] w' (zu1 lb B w0 tv0 (ts'++exT u)))/\∀(w':World) (ts':List ByteArray),LnI lb B w0 tv0 w' ts'->(ts'++zvi u.k (exT u)).length<=10000000000->xK 245 #[xP lb,xP (ub i)] w' (zu1 lb B w0 tv0 (ts'++zvi u.k (exT u))))->Hid (LnI lb B w0 tv0 W ts)->Hid (∀(w':World) (ts':List ByteArray),LnI lb B w0 tv0 w' ts'->Gl S w')->Hid ((ts++L).length<=10000000000)->xK 198 #[xP lb,xP b] W (zu1 lb B w0 tv0 (ts++L))) :
 xK 198 #[xP lb,xP b] W (zu1 lb B w0 tv0 (ts++opW t.k t.s (t.ts.map Tm.k) (exL t.ts))):=by
 subst hts;rw[el] at hm ⊢;obtain⟨u0,hu0⟩:∃u,t.ts[0]?=some u:=⟨_,zsc h0⟩;obtain⟨g,cp,_,d,_,_,lt⟩:=hT.look hu0;have hbN:=hT.six.2.2.2.2;have hub:∀i,∃ub,∀u,t.ts[i]?=some u->w0.cell? (xD g i)=some (xP ub)/\TT w0 N u (xP ub):=by
  intro i;cases hi:t.ts[i]? with
  | none=>exact⟨0,λu hu=>by cases hu⟩
  | some u => obtain⟨g',cp',ub,d',e,hTu,_⟩:=hT.look hi;cases d.symm.trans d';exact⟨ub,λu' hu'=>by cases hu';exact⟨e,hTu⟩⟩
 refine k g cp (λi=>(hub i).choose) (λw' ts' h'=>?_) (λi u hu=>?_) h (λw' ts' h'=>(hKn.ln h' (by omega)).gl) hm
 . obtain⟨x0,x2,_,_,_⟩:=(hT.old (h'.old hN)).six;exact⟨x0,x2,(zuZ (h'.old hN) hbN).trans d⟩
 . obtain⟨e,hTu⟩:=(hub i).choose_spec u hu;have hx:=hE u (List.mem_of_getElem? hu);exact⟨λw' ts' h'=>(zuZ (h'.old hN) lt).trans e,λw' ts' h' hm'=>hx lb B N w0 tv0 w' ts' _ hN h21 hTu hKn h' hm',λw' ts' h' hm'=>zvT hx lb B N w0 tv0 w' ts' _ hN h21 hTu hKn h' hm'⟩
def zx5 (S:Nat->Addr)(t:Tm):Prop:=∀(lb B N:Nat) (w0:World) (tv0:Value) (W:World) (ts:List ByteArray) (v:Value),N<=lb->21<=N->TT w0 N t v->Kn S w0->LnI lb B w0 tv0 W ts->(ts++opW t.k t.s (t.ts.map Tm.k) (exL t.ts)).length<=10000000000->xK 198 #[xP lb,v] W (zu1 lb B w0 tv0 (ts++opW t.k t.s (t.ts.map Tm.k) (exL t.ts)))
theorem zwz {u2:Tm}(hE:∀u∈t.ts,zvc S u)(hl:t.ts=[u0,u1,u2])(hk:t.k=5):zx5 S t:=by
 intro lb B N w0 tv0 W ts v hN h21 hT hKn h hm;obtain⟨b,_,_,rfl,_⟩:=hT.ptr;refine zx3 hE hN h21 hT hKn h [u0,u1,u2] hl (by simp) ([⟨#[105,102]⟩]++(exT u0++([⟨#[116,104,101,110]⟩]++(exT u1++([⟨#[101,108,115,101]⟩]++exT u2))))) (by unfold opW;rw[if_pos hk];rfl) hm ?_;intro g cp ub HKp HA H0 HG HM;go_enter func198,ntmps198;obtain⟨c0,c2,c5⟩:=HKp.o _ _ H0.o;rw[hk] at c0;have tk:=trivial;go_wp2_with (clear tk;go_at_call 77;refine (zu0 H0.o [⟨#[105,102]⟩] 1 rfl (by have:=HM.o;simp only[List.length_append,List.length_cons,List.length_nil] at this ⊢;omega) _ rfl).mono ?_);rintro e w1 ⟨rfl,H1⟩;obtain⟨c0,c2,c5⟩:=HKp.o _ _ H1;have E:=(HA.o 0 u0 rfl).1 _ _ H1;rw[hk] at c0;have tk:=trivial;go_wp2_with (clear tk;go_at_call 142;refine ((HA.o 0 u0 rfl).2.1 _ _ H1 (by have:=HM.o;simp only[List.length_append,List.length_cons,List.length_nil] at this ⊢;omega)).mono ?_);rintro e w2 ⟨rfl,H2⟩;obtain⟨c0,c2,c5⟩:=HKp.o _ _ H2;rw[hk] at c0;have tk:=trivial;go_wp2_with (clear tk;go_at_call 77;refine (zu0 H2 [⟨#[116,104,101,110]⟩] 1 rfl (by have:=HM.o;simp only[List.length_append,List.length_cons,List.length_nil] at this ⊢;omega) _ rfl).mono ?_);rintro e w3 ⟨rfl,H3⟩;obtain⟨c0,c2,c5⟩:=HKp.o _ _ H3;have E:=(HA.o 1 u1 rfl).1 _ _ H3;rw[hk] at c0;have tk:=trivial;go_wp2_with (clear tk;go_at_call 142;refine ((HA.o 1 u1 rfl).2.1 _ _ H3 (by have:=HM.o;simp only[List.length_append,List.length_cons,List.length_nil] at this ⊢;omega)).mono ?_);rintro e w4 ⟨rfl,H4⟩;obtain⟨c0,c2,c5⟩:=HKp.o _ _ H4;rw[hk] at c0;have tk:=trivial;go_wp2_with (clear tk;go_at_call 77;refine (zu0 H4 [⟨#[101,108,115,101]⟩] 1 rfl (by have:=HM.o;simp only[List.length_append,List.length_cons,List.length_nil] at this ⊢;omega) _ rfl).mono ?_);rintro e w5 ⟨rfl,H5⟩;obtain⟨c0,c2,c5⟩:=HKp.o _ _ H5;have E:=(HA.o 2 u2 rfl).1 _ _ H5;rw[hk] at c0;have tk:=trivial;go_wp2_with (clear tk;go_at_call 142;refine ((HA.o 2 u2 rfl).2.1 _ _ H5 (by have:=HM.o;simp only[List.length_append,List.length_cons,List.length_nil] at this ⊢;omega)).mono ?_);rintro e w6 ⟨rfl,H6⟩;go_wp2_with fail;first|go_end0|refine bodyPost_ret (results_none rfl _ _ _) rfl ?_
 exact⟨rfl,by simpa [List.append_assoc] using H6⟩
theorem zwq (hE:∀u∈t.ts,zvc S u)(hl:t.ts=[u0,u1])(hk:t.k=6):zx5 S t:=by
 intro lb B N w0 tv0 W ts v hN h21 hT hKn h hm;obtain⟨b,_,_,rfl,_⟩:=hT.ptr;refine zx3 hE hN h21 hT hKn h [u0,u1] hl (by simp) ([⟨#[109,101,114,103,101]⟩,t.s]++(zvi u0.k (exT u0)++zvi u1.k (exT u1))) (by unfold opW;rw[if_neg (by omega),if_pos hk];rfl) hm ?_;intro g cp ub HKp HA H0 HG HM;go_enter func198,ntmps198;obtain⟨c0,c2,c5⟩:=HKp.o _ _ H0.o;rw[hk] at c0;have tk:=trivial;go_wp2_with (clear tk;go_at_call 77;refine (zu0 H0.o [⟨#[109,101,114,103,101]⟩,t.s] 2 rfl (by have:=HM.o;simp only[List.length_append,List.length_cons,List.length_nil] at this ⊢;omega) _ rfl).mono ?_);rintro e w1 ⟨rfl,H1⟩;obtain⟨c0,c2,c5⟩:=HKp.o _ _ H1;have E:=(HA.o 0 u0 rfl).1 _ _ H1;rw[hk] at c0;have tk:=trivial;go_wp2_with (clear tk;go_at_call 245;refine ((HA.o 0 u0 rfl).2.2 _ _ H1 (by have:=HM.o;simp only[List.length_append,List.length_cons,List.length_nil] at this ⊢;omega)).mono ?_);rintro e w2 ⟨rfl,H2⟩;obtain⟨c0,c2,c5⟩:=HKp.o _ _ H2;have E:=(HA.o 1 u1 rfl).1 _ _ H2;rw[hk] at c0;have tk:=trivial;go_wp2_with (clear tk;go_at_call 245;refine ((HA.o 1 u1 rfl).2.2 _ _ H2 (by have:=HM.o;simp only[List.length_append,List.length_cons,List.length_nil] at this ⊢;omega)).mono ?_);rintro e w3 ⟨rfl,H3⟩;go_wp2_with fail;first|go_end0|refine bodyPost_ret (results_none rfl _ _ _) rfl ?_
 exact⟨rfl,by simpa [List.append_assoc] using H3⟩
theorem zwv (hE:∀u∈t.ts,zvc S u)(hl:t.ts=[u0])(hk:t.k=7):zx5 S t:=by
 intro lb B N w0 tv0 W ts v hN h21 hT hKn h hm;obtain⟨b,_,_,rfl,_⟩:=hT.ptr;refine zx3 hE hN h21 hT hKn h [u0] hl (by simp) (exT u0++[wd 7,t.s]) (by unfold opW;rw[if_neg (by omega),if_neg (by omega),if_pos (by omega),hk];rfl) hm ?_;intro g cp ub HKp HA H0 HG HM;have hwd:zcY[7]?=some (wd 7):=zvo (by omega);rw[hk] at HKp;go_enter func198,ntmps198;obtain⟨c0,c2,c5⟩:=HKp.o _ _ H0.o;have E:=(HA.o 0 u0 rfl).1 _ _ H0.o;have tk:=trivial;go_wp2_with (clear tk;go_at_call 142;refine ((HA.o 0 u0 rfl).2.1 _ _ H0.o (by have:=HM.o;simp only[List.length_append,List.length_cons,List.length_nil] at this ⊢;omega)).mono ?_);rintro e w1 ⟨rfl,H1⟩;obtain⟨c0,c2,c5⟩:=HKp.o _ _ H1;go_upto_region 18 with fail;go_region_held3 (λw'=>w'.cell? (xD b 0)=some (xI 7)/\w'.cell? (xD b 2)=some (.string t.s)) (first|go_keep|exact⟨(HKp.o _ _ H2).1,(HKp.o _ _ H2).2.1⟩) (first|(go_at_call 77;refine (zu2 H1 [wd 7,t.s] 2 rfl (by have:=HM.o;simp only[List.length_append,List.length_cons,List.length_nil] at this ⊢;omega) _ rfl).mono ?_;rintro e w2 ⟨rfl,H2⟩)|(go_at_call 196;refine (zm8 S 7 (wd 7) hwd _ (HG.o _ _ H1.drew)).mono ?_;rintro e wx ⟨rfl,rfl⟩));first|go_end0|refine bodyPost_ret (results_none rfl _ _ _) rfl ?_
 exact⟨rfl,by simpa [List.append_assoc] using H2⟩
theorem zwB (hE:∀u∈t.ts,zvc S u)(hl:t.ts=[u0])(hk:t.k=8):zx5 S t:=by
 intro lb B N w0 tv0 W ts v hN h21 hT hKn h hm;obtain⟨b,_,_,rfl,_⟩:=hT.ptr;refine zx3 hE hN h21 hT hKn h [u0] hl (by simp) (exT u0++[wd 8,t.s]) (by unfold opW;rw[if_neg (by omega),if_neg (by omega),if_pos (by omega),hk];rfl) hm ?_;intro g cp ub HKp HA H0 HG HM;have hwd:zcY[8]?=some (wd 8):=zvo (by omega);rw[hk] at HKp;go_enter func198,ntmps198;obtain⟨c0,c2,c5⟩:=HKp.o _ _ H0.o;have E:=(HA.o 0 u0 rfl).1 _ _ H0.o;have tk:=trivial;go_wp2_with (clear tk;go_at_call 142;refine ((HA.o 0 u0 rfl).2.1 _ _ H0.o (by have:=HM.o;simp only[List.length_append,List.length_cons,List.length_nil] at this ⊢;omega)).mono ?_);rintro e w1 ⟨rfl,H1⟩;obtain⟨c0,c2,c5⟩:=HKp.o _ _ H1;go_upto_region 18 with fail;go_region_held3 (λw'=>w'.cell? (xD b 0)=some (xI 8)/\w'.cell? (xD b 2)=some (.string t.s)) (first|go_keep|exact⟨(HKp.o _ _ H2).1,(HKp.o _ _ H2).2.1⟩) (first|(go_at_call 77;refine (zu2 H1 [wd 8,t.s] 2 rfl (by have:=HM.o;simp only[List.length_append,List.length_cons,List.length_nil] at this ⊢;omega) _ rfl).mono ?_;rintro e w2 ⟨rfl,H2⟩)|(go_at_call 196;refine (zm8 S 8 (wd 8) hwd _ (HG.o _ _ H1.drew)).mono ?_;rintro e wx ⟨rfl,rfl⟩));first|go_end0|refine bodyPost_ret (results_none rfl _ _ _) rfl ?_
 exact⟨rfl,by simpa [List.append_assoc] using H2⟩
theorem zwg (hE:∀u∈t.ts,zvc S u)(hl:t.ts=[u0])(hk:t.k=10):zx5 S t:=by
 intro lb B N w0 tv0 W ts v hN h21 hT hKn h hm;obtain⟨b,_,_,rfl,_⟩:=hT.ptr;refine zx3 hE hN h21 hT hKn h [u0] hl (by simp) ([wd 10]++exT u0) (by unfold opW;rw[if_neg (by omega),if_neg (by omega),if_neg (by omega),if_pos (by omega),hk];rfl) hm ?_;intro g cp ub HKp HA H0 HG HM;have hwd:zcY[10]?=some (wd 10):=zvo (by omega);go_enter func198,ntmps198;obtain⟨c0,c2,c5⟩:=HKp.o _ _ H0.o;rw[hk] at c0;have tk:=trivial;go_wp2_with (clear tk;go_at_call 196;refine (zm8 S 10 (wd 10) hwd _ (HG.o _ _ H0.o)).mono ?_);rintro e wx ⟨rfl,rfl⟩;have tk:=trivial;go_wp2_with (clear tk;go_at_call 77;refine (zu0 H0.o [wd 10] 1 rfl (by have:=HM.o;simp only[List.length_append,List.length_cons,List.length_nil] at this ⊢;omega) _ rfl).mono ?_);rintro e w1 ⟨rfl,H1⟩;obtain⟨c0,c2,c5⟩:=HKp.o _ _ H1;have E:=(HA.o 0 u0 rfl).1 _ _ H1;rw[hk] at c0;have tk:=trivial;go_wp2_with (clear tk;go_at_call 142;refine ((HA.o 0 u0 rfl).2.1 _ _ H1 (by have:=HM.o;simp only[List.length_append,List.length_cons,List.length_nil] at this ⊢;omega)).mono ?_);rintro e w2 ⟨rfl,H2⟩;go_wp2_with fail;first|go_end0|refine bodyPost_ret (results_none rfl _ _ _) rfl ?_
 exact⟨rfl,by simpa [List.append_assoc] using H2⟩
theorem zwb (hE:∀u∈t.ts,zvc S u)(hl:t.ts=[u0])(hk:t.k=11):zx5 S t:=by
 intro lb B N w0 tv0 W ts v hN h21 hT hKn h hm;obtain⟨b,_,_,rfl,_⟩:=hT.ptr;refine zx3 hE hN h21 hT hKn h [u0] hl (by simp) ([wd 11]++exT u0) (by unfold opW;rw[if_neg (by omega),if_neg (by omega),if_neg (by omega),if_pos (by omega),hk];rfl) hm ?_;intro g cp ub HKp HA H0 HG HM;have hwd:zcY[11]?=some (wd 11):=zvo (by omega);go_enter func198,ntmps198;obtain⟨c0,c2,c5⟩:=HKp.o _ _ H0.o;rw[hk] at c0;have tk:=trivial;go_wp2_with (clear tk;go_at_call 196;refine (zm8 S 11 (wd 11) hwd _ (HG.o _ _ H0.o)).mono ?_);rintro e wx ⟨rfl,rfl⟩;have tk:=trivial;go_wp2_with (clear tk;go_at_call 77;refine (zu0 H0.o [wd 11] 1 rfl (by have:=HM.o;simp only[List.length_append,List.length_cons,List.length_nil] at this ⊢;omega) _ rfl).mono ?_);rintro e w1 ⟨rfl,H1⟩;obtain⟨c0,c2,c5⟩:=HKp.o _ _ H1;have E:=(HA.o 0 u0 rfl).1 _ _ H1;rw[hk] at c0;have tk:=trivial;go_wp2_with (clear tk;go_at_call 142;refine ((HA.o 0 u0 rfl).2.1 _ _ H1 (by have:=HM.o;simp only[List.length_append,List.length_cons,List.length_nil] at this ⊢;omega)).mono ?_);rintro e w2 ⟨rfl,H2⟩;go_wp2_with fail;first|go_end0|refine bodyPost_ret (results_none rfl _ _ _) rfl ?_
 exact⟨rfl,by simpa [List.append_assoc] using H2⟩
theorem zwM (hE:∀u∈t.ts,zvc S u)(hl:t.ts=[u0,u1])(hk:t.k<24)(n5:¬t.k=5)(n6:¬t.k=6)(n7:¬t.k=7)(n8:¬t.k=8)(n10:¬t.k=10)(n11:¬t.k=11):zx5 S t:=by
 intro lb B N w0 tv0 W ts v hN h21 hT hKn h hm;obtain⟨b,_,_,rfl,_⟩:=hT.ptr;refine zx3 hE hN h21 hT hKn h [u0,u1] hl (by simp) (exT u0++([wd t.k]++exT u1)) (by unfold opW;rw[if_neg n5,if_neg n6,if_neg (by omega),if_neg (by omega)];rfl) hm ?_;intro g cp ub HKp HA H0 HG HM;have hwd:zcY[t.k]?=some (wd t.k):=zvo hk;have m5:¬((t.k:Int)=5):=by omega
 have m6:¬((t.k:Int)=6):=by omega
 have m7:¬((t.k:Int)=7):=by omega
 have m8:¬((t.k:Int)=8):=by omega
 have m10:¬((t.k:Int)=10):=by omega
 have m11:¬((t.k:Int)=11):=by omega
 go_enter func198,ntmps198;obtain⟨c0,c2,c5⟩:=HKp.o _ _ H0.o;have E:=(HA.o 0 u0 rfl).1 _ _ H0.o;have tk:=trivial;go_wp2_with (clear tk;go_at_call 142;refine ((HA.o 0 u0 rfl).2.1 _ _ H0.o (by have:=HM.o;simp only[List.length_append,List.length_cons,List.length_nil] at this ⊢;omega)).mono ?_);rintro e w1 ⟨rfl,H1⟩;obtain⟨c0,c2,c5⟩:=HKp.o _ _ H1;have tk:=trivial;go_wp2_with (clear tk;go_at_call 196;refine (zm8 S t.k (wd t.k) hwd _ (HG.o _ _ H1)).mono ?_);rintro e wx ⟨rfl,rfl⟩;have tk:=trivial;go_wp2_with (clear tk;go_at_call 77;refine (zu0 H1 [wd t.k] 1 rfl (by have:=HM.o;simp only[List.length_append,List.length_cons,List.length_nil] at this ⊢;omega) _ rfl).mono ?_);rintro e w2 ⟨rfl,H2⟩;obtain⟨c0,c2,c5⟩:=HKp.o _ _ H2;have E:=(HA.o 1 u1 rfl).1 _ _ H2;have tk:=trivial;go_wp2_with (clear tk;go_at_call 142;refine ((HA.o 1 u1 rfl).2.1 _ _ H2 (by have:=HM.o;simp only[List.length_append,List.length_cons,List.length_nil] at this ⊢;omega)).mono ?_);rintro e w3 ⟨rfl,H3⟩;go_wp2_with fail;first|go_end0|refine bodyPost_ret (results_none rfl _ _ _) rfl ?_
 exact⟨rfl,by simpa [List.append_assoc] using H3⟩
theorem zvF (hE:∀u∈t.ts,zvc S u)(har:arB t.k t.ts.length=true)(h5:5<=t.k):zx5 S t:=by
 obtain⟨L,hL⟩:∃L,t.ts=L:=⟨_,rfl⟩;rw[hL] at har;unfold arB at har;rw[if_neg (by omega),if_neg (by omega)] at har;by_cases k5:t.k=5
 . rw[if_pos k5] at har
   match L,hL,har with
   | [_,_,_],hL,_=>exact zwz hE hL k5
 rw[if_neg k5] at har;by_cases k6:t.k=6
 . rw[if_pos k6] at har
   match L,hL,har with
   | [_,_],hL,_=>exact zwq hE hL k6
 rw[if_neg k6] at har;by_cases k8:t.k<=8
 . rw[if_pos k8] at har
   match L,hL,har with
   | [_],hL,_ =>
     by_cases k7:t.k=7
     . exact zwv hE hL k7
     . exact zwB hE hL (by omega)
 rw[if_neg k8] at har;by_cases k11:t.k=10∨t.k=11
 . rw[if_neg (by omega),if_pos (by omega)] at har
   match L,hL,har with
   | [_],hL,_ =>
     rcases k11 with k|k
     . exact zwg hE hL k
     . exact zwb hE hL k
 have h2:L.length=2/\t.k<24:=by
  by_cases k9:t.k=9
  . rw[if_pos k9] at har;exact⟨by simpa using har,by omega⟩
  . rw[if_neg k9,if_neg (by omega)] at har;split at har
    . exact⟨by simpa using har,by omega⟩
    . cases har
 match L,hL,h2 with
 | [_,_],hL,h2=>exact zwM hE hL h2.2 k5 k6 (by omega) (by omega) (by omega) (by omega)
end
end Go.Proofs.YtmfkofhgdjechaaGreatDoor
