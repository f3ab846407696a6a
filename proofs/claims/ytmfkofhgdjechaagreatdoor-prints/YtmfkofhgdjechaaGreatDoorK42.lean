/- Part 43 of the proof: FrA FrB FrC FrD FrE GlO MdlL ChkO. -/
import Derived.Test.YtmfkofhgdjechaaGreatDoorK41
set_option maxRecDepth 100000
set_option maxHeartbeats 8000000
namespace Go.Proofs.YtmfkofhgdjechaaGreatDoor
open Go.Proofs.Tryz
section
open Go.RowKit
variable {r17 r18:Fn}
theorem zCJ:∀{l:List Nd} {ns ms:List Nod},ze5 l ns->ze5 l ms->ns=ms:=by
 intro l;induction l with
 | nil=>rintro ns ms rfl rfl;rfl
 | cons d l ih => rintro ns ms ⟨a,la,rfl,ha,hla⟩ ⟨b,lb,rfl,hb,hlb⟩;rw[ih hla hlb];obtain⟨a1,a2,a3,a4,a5,a6⟩:=a;obtain⟨b1,b2,b3,b4,b5,b6⟩:=b;obtain⟨h1,h2,h3,h4,h5,h6⟩:=ha;obtain⟨k1,k2,k3,k4,k5,k6⟩:=hb;simp only at h1 h2 h3 h4 h5 h6 k1 k2 k3 k4 k5 k6;subst h1 h2 h3 h4 h5 k1 k2 k3 k4 k5;rw[zC1 h6 k6]
theorem Kn.bl {S:Nat->Addr}{w W:World}(h:Kn S w)(hB:xB w W):Kn S W:=by refine⟨h.gl.of (T:=λ_=>False) (Fr.of_below hB) (λ_ e=>e.elim),?_⟩;have h3:=h.tab;unfold Lib.TabIs World.var? at h3 ⊢;rw[Tryz.gPow] at h3 ⊢;simp only[Option.bind_some] at h3 ⊢;rw[hB.block _ (by have:=h.gl.size;omega)];exact h3
theorem zBy (hX:zX 18 194 r18)(hK:zdI 18 r17)(g17:zv 17 r17)(g18:zv 18 r18)(S:Nat->Addr)(src:ByteArray)(R:St×List Nd)(hR:zgo r17 r18 1300 src=R)(hs:src.size<=1200)(he:R.1.er=0)(h6:R.2.length<=6)(ns:List Nod)(hn:ze5 R.2 ns)(w:World)(hG:Gl S w) :
 xK 13 #[.string src] w (λe w'=>∃gb,e=.returned (.tuple #[xP gb,.nilIface])/\PT w' w'.heap.size ns (xP gb)/\xB w w'):=by
 refine (zni hX hK g17 g18 S 1300 (by decide) (by decide) src w hG hs (R:=R) hR).mono ?_;rintro e w' ⟨_,hok,hB⟩;obtain⟨a,rfl,hPG⟩:=hok he;obtain⟨ns',hns,hPT⟩:=zpt hPG h6;have:=zCJ hns hn;subst this;obtain⟨gb,gv,xs,e0,rest⟩:=hPT;cases e0;exact⟨gb,rfl,⟨gb,gv,xs,rfl,rest⟩,hB⟩
theorem zzF (hX:zX 18 194 r18)(hK:zdI 18 r17)(g17:zv 17 r17)(g18:zv 18 r18)(S:Nat->Addr)(src:ByteArray)(k p:Nat)(h:(1200<src.size/\k=1/\p=0)∨(src.size<=1200/\(zgo r17 r18 1300 src).1.er≠0/\k=(zgo r17 r18 1300 src).1.er/\p=(zgo r17 r18 1300 src).1.at'))(w:World)(hG:Gl S w) :
 xK 13 #[.string src] w (λe w'=>e=.returned (.tuple #[.pointer none,zvh S zfv k p])/\xB w w'):=by
 rcases h with ⟨h1,rfl,rfl⟩|⟨h1,h2,h3,h4⟩
 . refine (zB3 S src w hG h1).mono ?_;rintro e w' ⟨rfl,hB⟩;exact⟨rfl,hB⟩
 . refine (zni hX hK g17 g18 S 1300 (by decide) (by decide) src w hG h1 rfl).mono ?_;rintro e w' ⟨hno,_,hB⟩;refine⟨?_,hB⟩;rw[hno h2,h3,h4];unfold za2 zvh;rw[if_neg h2]
theorem zA1 (S:Nat->Addr)(src:ByteArray)(k p:Nat)(hk1:1<=k)(hk2:k<=11)(w:World)(hG:Gl S w)(hE:Sn S w)(hT:ErT w)(hR:xK 13 #[.string src] w (λe w'=>e=.returned (.tuple #[.pointer none,zvh S zfv k p])/\xB w w')) :
 xK 8 #[.string src] w (λe w'=>e=.returned (.tuple #[.string ⟨#[]⟩,xI k,xI p])/\xB w w'):=by
 have HR:=za hR;have HAn:=za (λW (hB:xB w W)=>zvk S zfv k p W hk1 hk2 (hG.of (T:=λ_=>False) (Fr.of_below hB) (λ_ e=>e.elim)) (λi j i1 i2 j1 j2 W' hB'=>hE i j i1 i2 j1 j2 W' (hB.trans (hB'.mono hB.size))) ((World.cell?_of_block (w:=w) (a:=(xD 7 0)) (hB.block _ (World.block_lt_of_cell? w (xD 7 0) hT))).trans hT));unfold zvh zeQ at HR HAn;clear hR hG hE hT;go_enter func8,ntmps8
 go_wp2_with (first
  | (go_at_call 12;refine (HAn.o _ HB1.o).mono ?_;rintro e w2 ⟨rfl,hB⟩;have HB2:=za hB)
  | (go_at_call 13;refine HR.o.mono ?_;rintro e w1 ⟨rfl,hB⟩;have HB1:=za hB))
 exact bodyPost_ret (v:=.tuple #[.string ⟨#[]⟩,xI k,xI p]) (by simp[results,results8,go_sem]) rfl ⟨rfl,HB1.o.trans (HB2.o.mono HB1.o.size)⟩
end
section
open Go.RowKit
theorem zAY (S:Nat->Addr)(src:ByteArray)(ns:List Nod)(hwf:∀n∈ns,zeJ n)(hn:∀n∈ns,∀q∈n.eqs,nmB q.r=true/\szT q.r<=10000000000)(hlen:∀n∈ns,(zu4 n).length<=10000000000)(hby:(zu3 ns).length<=1000000000000)(w:World)(hK:Kn S w)
 (hR:xK 13 #[.string src] w (λe w'=>∃gb,e=.returned (.tuple #[xP gb,.nilIface])/\PT w' w'.heap.size ns (xP gb)/\xB w w')) :
 xK 8 #[.string src] w (λe w'=>e=.returned (.tuple #[.string ⟨(zu3 ns).toArray⟩,xI 0,xI 0])/\xB w w'):=by
 have HRr:=za hR;have HTx:=za (λW gb (hB:xB w W) (hP:PT W W.heap.size ns (xP gb))=>zwO S W.heap.size ns gb W (hK.bl hB) hP (Nat.le_refl _) (by have:=hK.gl.size;have:=hB.size;omega) hwf (λn hn' q hq=>zwI S q.r ((hwf n hn').eqs q hq).2.2.1 (hn n hn' q hq).1 (hn n hn' q hq).2) hlen hby);obtain⟨T,hT⟩:∃T,(zu3 ns).toArray=T:=⟨_,rfl⟩;rw[hT] at HTx ⊢;clear hR hn hlen hby hwf;go_enter func8,ntmps8
 go_wp2_with (first
  | (go_at_call 14;revert HP1;intro HP1;refine (HTx.o _ _ HB1.o HP1.o).mono ?_;rintro e w2 ⟨rfl,hB⟩;have HB2:=za hB)
  | (go_at_call 13;refine HRr.o.mono ?_;rintro e w1 ⟨gb,rfl,hP,hB⟩;have hz1:=hB.size;have HP1:=za hP;have HB1:=za hB))
 exact bodyPost_ret (v:=.tuple #[.string ⟨T⟩,xI 0,xI 0]) (by simp[results,results8,go_sem]) rfl ⟨rfl,HB1.o.trans (HB2.o.mono hz1)⟩
theorem zAc {r17 r18:Fn}(e17:r17=(lev 17).ex)(e18:r18=(lev 18).ex)(g17:zv 17 r17)(g18:zv 18 r18){g:Nat}{src:ByteArray}(hs:src.size<=1200){R:St×List Nd}(hR:zgo r17 r18 g src=R)(he:R.1.er=0) :
 (∀d∈R.2,NdR d)/\R.2.length<=6/\∃ns,ze5 R.2 ns/\(∀n∈ns,zeJ n)/\∀n∈ns,n.terms.length<=1201:=by
 have z17:ZK r17:=by rw[e17];exact (zCG 17).1
 have z18:ZK r18:=by rw[e18];exact (zCG 18).1
 have s17:SzD 17 r17:=by rw[e17];exact (zBD 17).1
 have s18:SzD 18 r18:=by rw[e18];exact (zBD 18).1
 obtain⟨a17,x17⟩:=zEG e17;obtain⟨a18,x18⟩:=zEG e18;have hI:Inv 0 (⟨src,zZ src 0,0,0,0,[]⟩:St):=zmc hs;subst hR;have k1:=zE2 z17 z18 (g:=g) hs;have k2:=zCh a17 a18 x17 x18 g17 g18 g src hI he;have k3:=zFj s17 s18 g17 g18 g src hI he;obtain⟨ns,h1,h2⟩:=zF1 k3;exact⟨λd hd=>⟨k1 d hd,k2 d hd,k3 d hd⟩,zDZ r17 r18 g src,ns,h1,zGg a17 a18 x17 x18 g17 g18 hs he h1,h2⟩
theorem zFQ {L:List Ex}(hS:∀e∈L,exS e){x:Nat}{t:Tm}(h:zeA L x t):nmB t=true:=by
 induction h with
 | mk x ex ts hx hl hr ih =>
   have hex:=hS ex (List.mem_of_getElem? hx);have hv:zbF ex.op.toList ex.n<=9223372036854775807:=(by unfold zbF;split;exact hex.1;exact Nat.zero_le _);have hts:∀ts':List Tm,(∀u∈ts',nmB u=true)->nmL ts'=true:=by
    intro ts';induction ts' with
    | nil=>intro _;rfl
    | cons u l ih2=>intro hu;rw[nmL,hu u (List.mem_cons_self ..),ih2 (λy hy=>hu y (List.mem_cons_of_mem _ hy))];rfl
   rw[nmB,decide_eq_true hv,hts ts (λu hu=>?_)]
   . rfl
   . obtain⟨i,hi⟩:=List.mem_iff_getElem?.1 hu;have hil:=(List.getElem?_eq_some_iff.1 hi).1;exact ih i _ u (zsc (show i<ex.ins.length by omega)) hi
theorem zFN:∀t:Tm,szT t=vz t:=by
 intro t;have h:∀n (t:Tm),szT t<=n->szT t=vz t:=by
  intro n;induction n with
  | zero=>intro t ht;cases t with|mk k a s nm m ts=>rw[szT] at ht;omega
  | succ n ih =>
    intro t ht;cases t with
    | mk k a s nm m ts =>
      rw[szT] at ht ⊢;rw[zBn];have hl:∀l:List Tm,szL l<=n->szL l=vzL l:=by
       intro l;induction l with
       | nil=>intro _;rfl
       | cons u l ih2 => intro hul;rw[szL] at hul ⊢;rw[zys,ih u (by omega),ih2 (by omega)]
      rw[hl ts (by omega)];omega
 exact h _ t (Nat.le_refl _)
theorem zDR:∀(l:List ByteArray),l.length<=(jn l).length+1
 | []=>by simp
 | [x]=>by simp
 | x::y::l=>by have:=zDR (y::l);rw[zAG];simp only[List.length_cons,List.length_append] at this ⊢;omega
theorem zBO (n:Nod):(zu4 n).length<=(zvg n).length:=by have h:=zDR (zu4 n);have e:zvg n=jn (zu4 n)++[10]:=rfl;rw[e,List.length_append];exact h
theorem zA3:∀(l:List (Eqn×ByteArray)) (s:ByteArray),(∀p∈l,(zyw p.1.ns).size<=2000000/\p.2.size<=2000000)->(l.foldl (λs p=>s++zyw p.1.ns++⟨#[32,61,32]⟩++p.2++⟨#[32,59,32]⟩) s).size<=s.size+l.length*4000006
 | [],s,_=>by simp
 | p::l,s,h=>by
   obtain⟨h1,h2⟩:=h p (List.mem_cons_self ..);have h3:=zA3 l (s++zyw p.1.ns++⟨#[32,61,32]⟩++p.2++⟨#[32,59,32]⟩) (λx hx=>h x (List.mem_cons_of_mem _ hx));rw[List.foldl_cons,List.length_cons];refine Nat.le_trans h3 ?_;rw[ByteArray.size_append,ByteArray.size_append,ByteArray.size_append,ByteArray.size_append]
   show s.size+_+3+_+3+_<=_;omega
theorem zEd {l:List ByteArray}{m:Nat}(h:∀s∈l,s.size<=m):(l.map λb=>b.size+10).sum<=l.length*(m+10):=by
 induction l with
 | nil=>simp
 | cons a l ih => have k1:=ih (λs hs=>h s (List.mem_cons_of_mem _ hs));have k2:=h a (List.mem_cons_self ..);simp only[List.map_cons,List.sum_cons,List.length_cons];rw[Nat.succ_mul];omega
theorem zBt {d:Nd}{n:Nod}(hn:zo6 d n)(hR:NdR d)(hq:∀q∈n.eqs,1<=q.ns.length):(zvg n).length<=9000000000:=by
 have ht:=zDG hn hR.s hR.o hq (zz5 hn hR);have e:(zvg n).length=(zyO d.nm d.vars (d.eqs.zip (n.eqs.map λq=>J (exT q.r)))).size:=by rw[ht.2];rfl
 rw[e];have hp:=zDw hn hR;have hv:=hp.small.vars;have hs1:∀b∈zyA d.vars,b.size<=3000:=λb hb=>by unfold zyA at hb;obtain⟨v,hv',rfl⟩:=List.mem_map.1 hb;exact zy1 (hv v (List.mem_filter.1 hv').1)
 have hs2:∀b∈zyu d.vars,b.size<=3000:=λb hb=>by unfold zyu at hb;obtain⟨v,hv',rfl⟩:=List.mem_map.1 hb;exact zy1 (hv v (List.mem_filter.1 hv').1)
 have j1:=Nat.le_trans (zzD ⟨#[32,44,32]⟩ rfl (zyA d.vars)) (zEd hs1);have j2:=Nat.le_trans (zzD ⟨#[32,44,32]⟩ rfl (zyu d.vars)) (zEd hs2);have l1:=zAa d.vars;have l2:=zzU d.vars;have l3:=hp.vars;have l4:=zzT hv;have l5:=hp.small.nm;have l6:(d.eqs.zip (n.eqs.map λq=>J (exT q.r))).length<=2000:=by rw[List.length_zip];have:=hp.eqs;omega
 have e1:=zA3 (d.eqs.zip (n.eqs.map λq=>J (exT q.r))) ⟨#[]⟩ (λp hp'=>by
  obtain⟨i,hi⟩:=List.mem_iff_getElem?.1 hp';rw[List.getElem?_zip_eq_some] at hi;obtain⟨q',h1,h2,h3⟩:=zC4 hn.eqs i p.1 hi.1;have hb:=hi.2;rw[List.getElem?_map,h1] at hb;have hb2:J (exT q'.r)=p.2:=Option.some.inj hb;have hz:=zz5 hn hR;have ht2:=zFM hR.s.exs hR.o.ar h2.r (by omega);refine⟨zBq (hR.s.eqs p.1 (List.mem_of_getElem? hi.1)) (hR.s.ns p.1 (List.mem_of_getElem? hi.1)),?_⟩;rw[<- hb2];omega)
 have e0:(⟨#[]⟩:ByteArray).size=0:=rfl;rw[e0] at e1;have hh:(hdB d.nm (zyA d.vars) (zyu d.vars)).size<=1000000:=by
  unfold hdB;rw[ByteArray.size_append,ByteArray.size_append,ByteArray.size_append,ByteArray.size_append,ByteArray.size_append,ByteArray.size_append]
  show 5+_+3+_+8+_+3<=_;omega
 have e2:(zy8 (d.eqs.zip (n.eqs.map λq=>J (exT q.r)))).size<=2000*4000006:=by unfold zy8;omega
 unfold zyO;rw[ByteArray.size_append,ByteArray.size_append,ByteArray.size_append];split
 . show _+2+_+2<=_;omega
 . rw[ByteArray.size_append,ByteArray.size_append];show _+4+_+2+_+2<=_;omega
end
section
open Go.RowKit
variable {r17 r18:Fn}
theorem zBl (g17:zv 17 r17)(g18:zv 18 r18)(g:Nat):∀(f:Nat) (x:St×List Nd),Inv 0 x.1->x.1.op=0->Inv 0 (zyS r17 r18 g f x).1
 | 0,_,h,_=>h
 | f+1,x,h,ho=>by
   unfold zyS;split
   . have:=zmW g17 g18 (f:=g) (nodes:=x.2) h ho;exact zBl g17 g18 g f _ this.1 this.2.1
   . exact h
theorem zFm (g17:zv 17 r17)(g18:zv 18 r18){g:Nat}{s:ByteArray}(hs:s.size<=1200):(zAP r17 r18 g s).1.er<=11:=by have h:=zmW g17 g18 (f:=g) (nodes:=[]) (zzo hs) rfl;exact (zBl g17 g18 g g _ h.1 h.2.1).ok.er
theorem zz9:∀{l:List Nd} {ns:List Nod},ze5 l ns->∀n∈ns,∃d∈l,zo6 d n:=by
 intro l;induction l with
 | nil=>rintro ns rfl n h;cases h
 | cons d l ih =>
   rintro ns ⟨n0,l',rfl,hn,hl⟩ n h;rcases List.mem_cons.1 h with rfl|h
   . exact⟨d,List.mem_cons_self ..,hn⟩
   . obtain⟨d2,h1,h2⟩:=ih hl n h;exact⟨d2,List.mem_cons_of_mem _ h1,h2⟩
theorem zCZ {L:List Ex}:∀{l:List Eqn} {qs:List Qn},zge L l qs->∀q∈qs,(∃x,zeA L x q.r)/\vz q.r<=vzQ qs:=by
 intro l;induction l with
 | nil=>rintro qs rfl q h;cases h
 | cons q0 l ih =>
   rintro qs ⟨q',l',rfl,hq,hl⟩ q h;rcases List.mem_cons.1 h with rfl|h
   . exact⟨⟨_,hq.r⟩,by unfold vzQ;simp⟩
   . obtain⟨h1,h2⟩:=ih hl q h;exact⟨h1,by unfold vzQ at h2 ⊢;simp only[List.map_cons,List.sum_cons];omega⟩
theorem zA6:∀{ns:List Nod},(∀n∈ns,(zvg n).length<=9000000000)->(zu3 ns).length<=ns.length*9000000000
 | [],_=>Nat.le_refl 0
 | n::ns,h=>by have h1:=h n (List.mem_cons_self ..);have h2:=zA6 (λx hx=>h x (List.mem_cons_of_mem _ hx));unfold zu3 at h2 ⊢;rw[List.flatMap_cons,List.length_append,List.length_cons];omega
theorem zDE (src:ByteArray):∃(T:ByteArray) (k p:Nat),(∀(S:Nat->Addr) (w:World),Kn S w->Sn S w->ErT w->xK 8 #[.string src] w (λe w'=>e=.returned (.tuple #[.string T,xI k,xI p])/\xB w w'))/\∀w:World,xK 40 #[.string src] w (λe w'=>e=.returned (.tuple #[.string T,xI k,xI p])/\xB w w'):=by
 obtain⟨r17,r18,e17,e18,hX,hK,g17,g18⟩:=zk1;have h17:zyq 17 260 r17:=by rw[e17];exact (zCv 17).1
 have h18:zyq 18 260 r18:=by rw[e18];exact (zCv 18).1
 by_cases hs:src.size<=1200
 . obtain⟨g,hg⟩:∃g,g=1300:=⟨_,rfl⟩;have hal:=zBj g17 g18 g (by omega) src (zzo hs);have her:=zFm g17 g18 (g:=g) hs;obtain⟨R,hR⟩:∃R,zgo r17 r18 g src=R:=⟨_,rfl⟩;obtain⟨M,hM⟩:∃M,zAP r17 r18 g src=M:=⟨_,rfl⟩;rw[hR,hM] at hal;rw[hM] at her;have hRef:=λw=>zFF h17 g17 h18 g18 g hg src w hs hM;rw[hg] at hR;by_cases he:R.1.er=0
   . obtain⟨f1,f2,ns,f3,f4,_⟩:=zAc e17 e18 g17 g18 hs hR he;have heM:M.1.er=0:=hal.1.er▸he;have e2:=hal.2 he;have hq1:∀n∈ns,∀q∈n.eqs,1<=q.ns.length:=λn hn q hq=>((f4 n hn).eqs q hq).2.1;have hsm:∀n∈ns,(zvg n).length<=9000000000:=λn hn=>by obtain⟨d,hd,hnd⟩:=zz9 f3 n hn;exact zBt hnd (f1 d hd) (hq1 n hn)
     have hln:=f3.len;have htl:=zA6 hsm;refine⟨⟨(zu3 ns).toArray⟩,0,0,λS w hKn hE hT=>?_,λw=>?_⟩
     . refine zAY S src ns f4 (λn hn q hq=>?_) (λn hn=>by have:=zBO n;have:=hsm n hn;omega) (by omega) w hKn (zBy hX hK g17 g18 S src R hR hs he f2 ns f3 w hKn.gl);obtain⟨d,hd,hnd⟩:=zz9 f3 n hn;obtain⟨⟨x,hx⟩,hz⟩:=zCZ hnd.eqs q hq;have hz2:=zz5 hnd (f1 d hd);exact⟨zFQ (f1 d hd).s.exs hx,by rw[zFN];omega⟩
     . have hps:=zGs ⟨#[]⟩ f3 f1 hq1;rw[zz4] at hps;rw[<- hps];refine zCr src R.2 (ns.map txN) (by rw[List.length_map];exact hln) f2 (λd hd=>?_) (λi d b hd hb=>?_) w ((hRef w).mono ?_)
       . obtain⟨i,hi⟩:=List.mem_iff_getElem?.1 hd;obtain⟨n,_,hnd⟩:=zCD f3 i d hi;exact zDw hnd (f1 d hd)
       . obtain⟨n,hni,hnd⟩:=zCD f3 i d hd;rw[List.getElem?_map,hni] at hb;cases hb;have hdm:=List.mem_of_getElem? hd;have ht:=(zDG hnd (f1 d hdm).s (f1 d hdm).o (hq1 n (List.mem_of_getElem? hni)) (zz5 hnd (f1 d hdm))).1;exact⟨ht,zF4 (zDw hnd (f1 d hdm)) ht⟩
       . rintro e w' ⟨rb,n,hrb,rfl,hNs,hB⟩;rw[if_pos heM,if_pos heM,heM];rw[e2];exact⟨rb,n,hrb,rfl,hNs heM,hB⟩
   . have heM:M.1.er≠0:=λh=>he (hal.1.er.trans h);refine⟨⟨#[]⟩,R.1.er,R.1.at',λS w hKn hE hT=>?_,λw=>?_⟩
     . have:=hal.1.er;refine zA1 S src _ _ (by omega) (by omega) w hKn.gl hE hT (zzF hX hK g17 g18 S src _ _ (Or.inr ⟨hs,?_,?_,?_⟩) w hKn.gl)
       . rw[hR];exact he
       . rw[hR]
       . rw[hR]
     . refine zAj src _ _ (by omega) w ((hRef w).mono ?_);rintro e w' ⟨rb,n,_,rfl,_,hB⟩;rw[if_neg heM,if_neg heM,hal.1.er,hal.1.at'];exact⟨rfl,hB⟩
 . refine⟨⟨#[]⟩,1,0,λS w hKn hE hT=>?_,λw=>?_⟩
   . exact zA1 S src 1 0 (by omega) (by omega) w hKn.gl hE hT (zzF hX hK g17 g18 S src 1 0 (Or.inl ⟨by omega,rfl,rfl⟩) w hKn.gl)
   . refine zAj src 1 0 (by omega) w ((zB8 src w (by omega)).mono ?_);rintro e w' ⟨rfl,rfl⟩;exact⟨rfl,Below.refl _ _⟩
end
section
open Go.RowKit
theorem zmA (w:World):xK 12 #[.nilIface] w (λe w'=>e=.returned (.tuple #[xI 0,xI 0])/\w=w'):=by go_enter func12,ntmps12;go_wp2_with fail;exact bodyPost_ret (v:=.tuple #[xI 0,xI 0]) (by simp[results,results12,go_sem]) rfl ⟨rfl,rfl⟩
end
section
variable {c:Sc} {u:Tm} {g:Tm->Bool}
theorem zji:∀{ts:List Tm},u∈zdk g ts->∃t∈ts,u∈zaV g t:=by
 intro ts;induction ts with
 | nil=>intro h;rw[zdk] at h;cases h
 | cons x ts ih =>
   intro h;rw[zdk] at h;rcases List.mem_append.1 h with h|h
   . exact⟨x,List.mem_cons_self,h⟩
   . obtain⟨t,h1,h2⟩:=ih h;exact⟨t,List.mem_cons_of_mem _ h1,h2⟩
theorem Wf.vis {t:Tm}(h:Wf t)(hu:u∈zaV g t):Wf u:=by
 induction h generalizing u with
 | mk k a s nm n ts h hr ih =>
   rw[zaV] at hu;rcases List.mem_cons.1 hu with rfl|hu
   . exact Wf.mk k a s nm n ts h hr
   . split at hu
     . obtain⟨t,h1,h2⟩:=zji hu;exact ih t h1 h2
     . cases hu
theorem zjj:∀{l:List Vr} {i:Nat},zat c l i=[]->∀v∈l,zaA v≠0->c.has v.ck=true:=by
 intro l;induction l with
 | nil=>intro i _ v hv;cases hv
 | cons x l ih =>
   intro i h v hv hs;rw[zat,List.append_eq_nil_iff,List.append_eq_nil_iff] at h;rcases List.mem_cons.1 hv with rfl|hv
   . have h2:=h.1.2;cases hh:c.has v.ck with
     | true=>rfl
     | false=>rw[hh] at h2;simp[hs] at h2
   . exact ih h.2 v hv hs
theorem ziH:∀{ns:List ByteArray} {ps:List Nat},ns.length=ps.length->z7 c ns ps=[]->∀s∈ns,c.has s=true/\¬c.idx s<c.nd.ins:=by
 intro ns;induction ns with
 | nil=>intro ps _ _ s hs;cases hs
 | cons x ns ih =>
   intro ps hl h s hs;cases ps with
   | nil=>simp at hl
   | cons p ps =>
     rw[z7,List.append_eq_nil_iff] at h;rcases List.mem_cons.1 hs with rfl|hs
     . have h2:=h.1;constructor
       . cases hh:c.has s with
         | true=>rfl
         | false=>rw[hh] at h2;simp at h2
       . intro hi;rw[decide_eq_true hi] at h2;simp at h2
     . exact ih (by simpa using hl) h.2 s hs
theorem zgU {α:Type}{f:α->List Nat}{l:List α}(h:l.flatMap f=[]):∀x∈l,f x=[]:=List.flatMap_eq_nil_iff.1 h
theorem zex (hc:zbr c)(h:c.namesL=[]):zfw c:=by
 unfold Sc.namesL at h;rw[List.append_eq_nil_iff,List.append_eq_nil_iff,List.append_eq_nil_iff] at h;obtain⟨⟨⟨_,h2⟩,h3⟩,h4⟩:=h;have hT:∀q∈c.nd.eqs,∀u∈zaV za5 q.r,(zaJ u.k=true->c.has u.s=true)/\(u.k=4->∃d,c.called u.s=some d/\d.nd.ins=u.ts.length/\d.nd.outs=zda q u):=by
  intro q hq u hu;have h5:=zgU (zgU h4 q hq) u hu;unfold zaL at h5;rw[List.append_eq_nil_iff] at h5;refine⟨λhn=>?_,λhk=>?_⟩
  . cases hh:c.has u.s with
    | true=>rfl
    | false=>have:=h5.1;rw[hh,hn] at this;simp at this
  . have h6:=h5.2;cases hf:c.fits u (zda q u) with
    | false=>rw[hf,hk] at h6;simp at h6
    | true =>
      unfold Sc.fits at hf;split at hf
      . cases hf
      . rename_i d hd
        simp only[Bool.and_eq_true,beq_iff_eq] at hf;exact⟨d,hd,hf.1,hf.2⟩
 refine⟨λq hq u hu=>?_,zjj h2,λq hq s hs=>(ziH (hc.nd.eqs q hq).1 (zgU h3 q hq) s hs).1,λq hq h=>?_⟩
 . obtain⟨a1,a2⟩:=hT q hq u hu;exact⟨a1,λhk=>by obtain⟨d,b1,b2,_⟩:=a2 hk;exact⟨d,b1,b2⟩,((hc.nd.eqs q hq).2.2.1.vis hu).ar⟩
 . obtain⟨d,b1,_,b3⟩:=(hT q hq q.r (zey _ _)).2 ((hc.nd.eqs q hq).2.2.2 h);refine⟨d,b1,?_⟩;rw[b3];unfold zda;rw[if_pos rfl]
end
section
open Go.RowKit
variable {d:List Bool} {N b1 b2 bb kd lb sb:Nat} {S:Nat->Addr} {st:Option Nat} {c:Sc} {askv ev nmv nv:Value} {w w':World}
attribute [local go_sem ↓] Go.wp_at_zero Go.wp_at_succ
theorem Tryz.infoBl:(prog.info? 4).map (λi=>(i.zero,i.size,i.bytes))=some (some (.bool false),1,1):=by kernel_rfl
def zdC (l:List Bool):List Value:=l.map .bool
theorem zkG (n:Nat)(hc:n<=3145728)(w:World):(Instr.makeSlice 174 (xI (n:Int)) (xI (n:Int))).run prog w=.ok (xS w.heap.size n n) (w.alloc (.cells (zdC (List.replicate n false)).toArray 4)):=by
 obtain⟨i0,hi,hi0,hi1,hi2⟩:=info_parts Tryz.infoBl;have:=run_make (P:=prog) w 174 4 i0 _ underlying174 hi hi0 .i64 .i64 (n:Int) (n:Int) (by omega) (by omega) (by rw[hi2];omega) (by omega);refine this.trans ?_;rw[hi1];simp only[Int.toNat_natCast,Nat.mul_one];refine congrArg (λx=>Result.ok (xS w.heap.size n n) (w.alloc (.cells x 4))) ?_;unfold madeCells;apply Array.ext
 . simp[zdC]
 . intro j h1 h2;simp[zdC,Value.cells,Nat.mod_one]
theorem zdF {b k:Nat}{e:TypeId}{x:Bool}(h:w.heap[b]?=some (.cells (zdC d).toArray e (0,0)))(hk:d[k]?=some x):w.cell? (xD b k)=some (.bool x):=by simp[World.cell?,h,zdC,hk]
theorem zja (c:Sc)(ps:List Nat)(d:List Bool):zaC c [] ps d=([],d):=by cases ps <;> rfl
structure zdD (S:Nat->Addr) (kd lb bb sb:Nat) (nmv askv:Value) (N:Nat) (c:Sc) (ev nv:Value) (b1 b2:Nat) (d:List Bool) (st:Option Nat) (w:World):Prop where
 rp:RpI S kd lb bb sb nmv askv st w
 sc:ScV w N c ev nv
 x1:w.heap[b1]?=some (.cells #[ev,nv] 205 (0,0))
 x2:w.heap[b2]?=some (.cells (zdC d).toArray 4 (0,0))
 d1:¬b1=lb
 d2:¬b1=bb
 d3:¬b2=lb
 d4:¬b2=bb
 d5:¬b1=b2
 d6:¬b2=sb
 l1:N<=lb
 l2:N<=bb
 l3:N<=b2
 hN:N<=w.heap.size
theorem zdD.keep (h:zdD S kd lb bb sb nmv askv N c ev nv b1 b2 d st w)(hB:xB w w'):zdD S kd lb bb sb nmv askv N c ev nv b1 b2 d st w' :=
 ⟨h.rp.keep hB,h.sc.old (zm hB h.hN),(hB.block _ (ze h.x1)).trans h.x1,(hB.block _ (ze h.x2)).trans h.x2,h.d1,h.d2,h.d3,h.d4,h.d5,h.d6,h.l1,h.l2,h.l3,Nat.le_trans h.hN hB.size⟩
theorem zdD.told {st':Option Nat}(h:zdD S kd lb bb sb nmv askv N c ev nv b1 b2 d st w)(hr:RpI S kd lb bb sb nmv askv st' w')(hf:Fr (RT lb bb) w w'):zdD S kd lb bb sb nmv askv N c ev nv b1 b2 d st' w':=by have h1:=h.d1;have h2:=h.d2;have h3:=h.d3;have h4:=h.d4;have l1:=h.l1;have l2:=h.l2;exact⟨hr,h.sc.old (hf.old h.hN (λk e=>by rcases e with e|e;exact e▸l1;exact e▸l2)),(hf.block _ (ze h.x1) (λe=>by rcases e with e|e;exact h1 e;exact h2 e)).trans h.x1,(hf.block _ (ze h.x2) (λe=>by rcases e with e|e;exact h3 e;exact h4 e)).trans h.x2,h.d1,h.d2,h.d3,h.d4,h.d5,h.d6,h.l1,h.l2,h.l3,Nat.le_trans h.hN hf.size⟩
theorem zjw (d:List Bool)(i:Nat)(b:Bool):(zdC d).toArray.setIfInBounds i (.bool b)=(zdC (d.set i b)).toArray:=by unfold zdC;rw[List.map_set];simp
theorem zdD.put (h:zdD S kd lb bb sb nmv askv N c ev nv b1 b2 d st w)(i:Nat)(b:Bool):zdD S kd lb bb sb nmv askv N c ev nv b1 b2 (d.set i b) st (w.setCell (xD b2 i) (.bool b)):=by
 have l3:=h.l3;have hk:∀k,¬k=b2->(w.setCell (xD b2 i) (.bool b)).heap[k]?=w.heap[k]?:=λk hk=>Below.heap_setCell w _ _ k hk;refine⟨⟨(hk _ λe=>h.d3 e.symm).trans h.rp.l,(hk _ λe=>h.d4 e.symm).trans h.rp.b,(hk _ λe=>h.d6 e.symm).trans h.rp.s,h.rp.n1,h.rp.n2,h.rp.n3⟩,h.sc.old (λk hk'=>hk k (by omega)),(hk _ h.d5).trans h.x1,?_,h.d1,h.d2,h.d3,h.d4,h.d5,h.d6,h.l1,h.l2,h.l3,?_⟩
 . rw[zh _ _ _ _ h.x2,zjw]
 . have:=h.hN;simpa using this
theorem zpj {s:ByteArray}(h:c.has s=true):c.idx s<c.nd.vars.length:=by unfold Sc.has at h;unfold Sc.idx;obtain⟨j,hj⟩:=Option.isSome_iff_exists.1 h;rw[hj];have:=(zgO hj).2.1;simpa using this
theorem zgb (S:Nat->Addr)(kd lb bb sb:Nat)(nmv askv:Value)(N:Nat)(c:Sc)(hc:zbr c)(hn:zfw c)(ev nv:Value)(st:Option Nat)(w:World)(hR:RpI S kd lb bb sb nmv askv st w)(h:ScV w N c ev nv)(hN:N<=w.heap.size)(l1:N<=lb)(l2:N<=bb) :
 xK 57 #[.agg #[ev,nv],zam lb bb sb] w (λe w'=>e=.returned (.tuple #[])/\RpI S kd lb bb sb nmv askv (c.definesL.foldl rep st) w'/\Fr (RT lb bb) w w'):=by
 obtain⟨xe,cpe,nb,rfl,rfl,hnb⟩:=h.shape;have hzl:=ze hR.l;have hzb:=ze hR.b;have hzs:=ze hR.s;have hA0:∀o1 o2,((w.alloc o1).alloc o2).heap[w.heap.size]?=some o1/\((w.alloc o1).alloc o2).heap[w.heap.size+1]?=some o2:=λo1 o2=>al2 w o1 o2
 have hAs:zdD S kd lb bb sb nmv askv N c (xE xe c cpe) (xP nb) w.heap.size (w.heap.size+1) (List.replicate c.nd.vars.length false) st ((w.alloc (.cells #[xE xe c cpe,xP nb] 205)).alloc (.cells (zdC (List.replicate c.nd.vars.length false)).toArray 4)) :=
  ⟨hR.keep (zaD w _ _),h.old (zfr hN _ _),(hA0 _ _).1,(hA0 _ _).2,by omega,by omega,by omega,by omega,by omega,by omega,l1,l2,by omega,by simp;omega⟩
 have HAs:=za hAs;obtain⟨nb',vs,qv,xs,e9,hnt⟩:=h.nd;cases e9;obtain⟨xv,cpv,rfl⟩:=zB hnt.vown;obtain⟨xq,cpq,rfl⟩:=zB hnt.own;obtain⟨m0,m1,m2,m3,m4,m5,mf,mz⟩:=zt hnt.blk;have HNt:=za hnt;have hfew:=hnt.few;have h16:c.nd.eqs.length<=9223372036854775807:=by
  rcases hnt.own.2 with ⟨_,h⟩|⟨g,cap,cur,hv,_,_,h3,h4,_⟩
  . omega
  . unfold maxLen at h4;omega
 have mk:=zkG c.nd.vars.length (by omega);have HFr0:=za (zy (T:=RT lb bb) (zaD w (.cells #[xE xe c cpe,xP nb] 205) (.cells (zdC (List.replicate c.nd.vars.length false)).toArray 4)));have hnw:nb<w.heap.size:=by omega
 clear hR h hA0 hAs hnt;unfold zam;go_enter func57,ntmps57;go_wp2_with fail;go_loopg [27] (c.nd.eqs.length+1) (λj i wr=>∃(k:Nat) (d:List Bool) (st':Option Nat),k+j=c.nd.eqs.length+1/\k<=c.nd.eqs.length/\i=xI k/\Hid (zdD S kd lb bb sb nmv askv N c (xE xe c cpe) (xP nb) w.heap.size (w.heap.size+1) d st' wr)/\Hid (d.length=c.nd.vars.length)/\Hid ((zcN c c.nd.eqs (List.replicate c.nd.vars.length false)).1.foldl rep st=(zcN c (c.nd.eqs.drop k) d).1.foldl rep st'/\(zcN c c.nd.eqs (List.replicate c.nd.vars.length false)).2=(zcN c (c.nd.eqs.drop k) d).2)/\Hid (Fr (RT lb bb) w wr));case atStart=>exact⟨0,_,st,by omega,Nat.zero_le _,rfl,HAs.o,List.length_replicate,⟨rfl,rfl⟩,HFr0.o⟩
 case round =>
  clear HAs HFr0 m0 m1 m2 m3 m4 m5 mf mz mk;obtain⟨k,d,st',hkj,hk,rfl,HI,Hdl,HD,HF⟩:=hrel;have hO:=HF.o.old hN (λk e=>by rcases e with e|e;exact e▸l1;exact e▸l2);by_cases hlt:k<c.nd.eqs.length
  . obtain⟨wo,rfl⟩:∃wo,wo=wr:=⟨_,rfl⟩;obtain⟨gko,rfl⟩:∃g,g=gk:=⟨_,rfl⟩;obtain⟨q,hq⟩:∃q,c.nd.eqs[k]?=some q:=⟨_,zsc hlt⟩;have hN2:=HNt.o.old hO;obtain⟨g,lv,rv,rfl,c0,c1,c2,hE⟩:=zcd hN2.own hN2.eqs hq rfl;obtain⟨rb,_,_,rfl,_⟩:=hE.tt.ptr;obtain⟨xl,cl,rfl⟩:=zB hE.own;have hgN:=HNt.o.elo g rfl;have HEq:=za hE;have hqm:=List.mem_of_getElem? hq;have hql:=(hc.nd.eqs q hqm).1;have Hql:=za hql;have HLf:=za (hn.left q hqm);have hNr:=HI.o.hN;have hDq:zcN c (c.nd.eqs.drop k) d=((zaC c q.ns q.ps d).1++(zcN c (c.nd.eqs.drop (k+1)) (zaC c q.ns q.ps d).2).1,(zcN c (c.nd.eqs.drop (k+1)) (zaC c q.ns q.ps d).2).2):=by obtain⟨h1,h2⟩:=List.getElem?_eq_some_iff.1 hq;rw[List.drop_eq_getElem_cons h1,zcN,h2]
    have HDq:=za hDq;have h17:q.ns.length<=9223372036854775807:=by
     rcases hE.own.2 with ⟨_,h⟩|⟨g,cap,cur,hv,_,_,h3,h4,_⟩
     . omega
     . unfold maxLen at h4;omega
    have HkX:=za (HI.o.keep (zq wo (.cells #[.slice xl q.ns.length cl,xI q.a,xP rb] 161)));have HwX:=za (HF.o.alloc (.cells #[.slice xl q.ns.length cl,xI q.a,xP rb] 161));clear hN2 hE hq hql hO hDq hqm;go_wp2_with fail;go_loopg [34] (q.ns.length+1) (λj i wr=>∃(k2:Nat) (d2:List Bool) (st2:Option Nat),k2+j=q.ns.length+1/\k2<=q.ns.length/\i=xI k2/\Hid (zdD S kd lb bb sb nmv askv N c (xE xe c cpe) (xP nb) w.heap.size (w.heap.size+1) d2 st2 wr)/\Hid (d2.length=c.nd.vars.length)/\Hid ((zaC c q.ns q.ps d).1.foldl rep st'=(zaC c (q.ns.drop k2) (q.ps.drop k2) d2).1.foldl rep st2/\(zaC c q.ns q.ps d).2=(zaC c (q.ns.drop k2) (q.ps.drop k2) d2).2)/\Hid (Fr (RT lb bb) w wr));case atStart=>exact⟨0,d,st',by omega,Nat.zero_le _,rfl,HkX.o,Hdl.o,⟨rfl,rfl⟩,HwX.o⟩
    case round =>
     clear HkX HwX c0 c1 c2;obtain⟨k2,d2,st2,hkj2,hk2,rfl,HI2,Hdl2,HD2,HF2⟩:=hrel;by_cases hlt2:k2<q.ns.length
     . obtain⟨s,hs⟩:∃s,q.ns[k2]?=some s:=⟨_,zsc hlt2⟩;obtain⟨p,hp⟩:∃p,q.ps[k2]?=some p:=⟨_,zsc (by have:=Hql.o;omega)⟩;have hO2:=HF2.o.old hN (λk e=>by rcases e with e|e;exact e▸l1;exact e▸l2);have hOe:Old N wo wr:=λb hb=>(hO2 b hb).trans ((HF.o.old hN (λk e=>by rcases e with e|e;exact e▸l1;exact e▸l2)) b hb).symm;obtain⟨gl,rfl,c0,c1⟩:=zbe (HEq.o.old hOe).own hs hp rfl;have hglN:=HEq.o.lo gl rfl;have hNs:=HI2.o.hN;have hha:=HLf.o s (List.mem_of_getElem? hs);have hix:=zpj hha;obtain⟨b,hb⟩:∃b,d2[c.idx s]?=some b:=⟨_,zsc (by have:=Hdl2.o;omega)⟩;have HIx:=za (zaz s (p:Int) (wr.alloc (.cells #[.string s,xI p] 144)) (HI2.o.keep (zq wr _)).sc (HI2.o.keep (zq wr _)).hN);obtain⟨s0,s1,sf,sz⟩:=zp HI2.o.x1;have hDe:zaC c (q.ns.drop k2) (q.ps.drop k2) d2=((if b=true then [p] else [])++(zaC c (q.ns.drop (k2+1)) (q.ps.drop (k2+1)) (d2.set (c.idx s) true)).1,(zaC c (q.ns.drop (k2+1)) (q.ps.drop (k2+1)) (d2.set (c.idx s) true)).2):=(by obtain⟨h1,h2⟩:=List.getElem?_eq_some_iff.1 hs;obtain⟨h3,h4⟩:=List.getElem?_eq_some_iff.1 hp;rw[List.drop_eq_getElem_cons h1,List.drop_eq_getElem_cons h3,zaC,h2,h4];rw[show d2.getD (c.idx s) false=b by rw[List.getD_eq_getElem?_getD,hb];rfl]);have HT:Hid ((zaC c q.ns q.ps d).1.foldl rep st'=(zaC c (q.ns.drop (k2+1)) (q.ps.drop (k2+1)) (d2.set (c.idx s) true)).1.foldl rep ((if b=true then [p] else []).foldl rep st2)/\(zaC c q.ns q.ps d).2=(zaC c (q.ns.drop (k2+1)) (q.ps.drop (k2+1)) (d2.set (c.idx s) true)).2):=(by have a:=HD2.o;rw[hDe,List.foldl_append] at a;exact a);have i0:(0:Int)<=(c.idx s:Int):=(by omega);have i1:(c.idx s:Int)<(c.nd.vars.length:Int):=(by omega);have Hb:=za hb;clear hO2 hOe hs hp hb hDe HD2;cases b with
       | false =>
         go_wp2_with (go_at_call 103;refine HIx.o.mono ?_;rintro e w1 ⟨rfl,hB1⟩;have HB1:=za hB1;have HI3:=za (HI2.o.keep (zE hB1));have e0:=zdF HI3.o.x2 Hb.o;have e2:=zai HI3.o.x2 (c.idx s);have e3:=ze HI3.o.x2;clear hB1);go_roundg (gk-1);case measure=>omega
         exact⟨k2+1,d2.set (c.idx s) true,st2,by omega,by omega,by go_num,HI3.o.put _ _,by unfold Hid;rw[List.length_set];exact Hdl2.o,HT.o,(HF2.o.belowed (zE HB1.o)).setNew (by omega) _ _⟩
       | true =>
         go_wp2_with (first
          | (go_at_call 124;refine (zaa S kd lb bb sb nmv askv st2 p _ HI3.o.rp).mono ?_;rintro e w2 ⟨rfl,hRt,hFt⟩;have HI4:=za (HI3.o.told hRt hFt);have HFt:=za hFt;have f0:=zdF HI4.o.x2 Hb.o;have f2:=zai HI4.o.x2 (c.idx s);have f3:=ze HI4.o.x2;clear hRt hFt)
          | (go_at_call 103;refine HIx.o.mono ?_;rintro e w1 ⟨rfl,hB1⟩;have HB1:=za hB1;have HI3:=za (HI2.o.keep (zE hB1));have e0:=zdF HI3.o.x2 Hb.o;have e1:xC w1 wr.heap.size 1 (xI p):=zd HB1.o (zp (zc wr _)).2.1 (by simp);clear hB1))
         go_roundg (gk-1);case measure=>omega
         exact⟨k2+1,d2.set (c.idx s) true,rep st2 p,by omega,by omega,by go_num,HI4.o.put _ _,by unfold Hid;rw[List.length_set];exact Hdl2.o,HT.o,((HF2.o.belowed (zE HB1.o)).trans HFt.o).setNew (by omega) _ _⟩
     . have ek:k2=q.ns.length:=(by omega);subst ek;rw[List.drop_length,zja] at HD2;go_wp2_with fail;go_roundg (gko-1);case measure=>omega
       refine⟨k+1,d2,st2,by omega,by omega,by go_num,HI2.o,Hdl2.o,?_,HF2.o⟩;have a:=HD.o;have b:=HD2.o;rw[HDq.o,b.2] at a;refine⟨a.1.trans ?_,a.2⟩;rw[List.foldl_append,b.1];rfl
  . have ek:k=c.nd.eqs.length:=by omega
    subst ek;rw[List.drop_length,zcN] at HD;obtain⟨hD1,hD2⟩:=HD.o;have HT:Hid (c.definesL.foldl rep st=(zb1 c.nd.ins d c.nd.vars 0).foldl rep st'):=(by unfold Hid Sc.definesL;simp only[List.foldl_append];rw[hD1,hD2];rfl);clear HD hD1 hD2;obtain⟨s0,s1,sf,sz⟩:=zp HI.o.x1;obtain⟨n0,n1,n2,n3,n4,n5,nf,nz⟩:=zt ((hO nb HNt.o.lo).trans HNt.o.blk);clear hO;go_wp2_with fail;go_loopg [62] (c.nd.vars.length+1) (λj i wr=>∃(k:Nat) (st2:Option Nat),k+j=c.nd.vars.length+1/\k<=c.nd.vars.length/\i=xI k/\Hid (zdD S kd lb bb sb nmv askv N c (xE xe c cpe) (xP nb) w.heap.size (w.heap.size+1) d st2 wr)/\Hid ((zb1 c.nd.ins d c.nd.vars 0).foldl rep st'=(zb1 c.nd.ins d (c.nd.vars.drop k) k).foldl rep st2)/\Hid (Fr (RT lb bb) w wr));case atStart=>exact⟨0,st',by omega,Nat.zero_le _,rfl,HI.o,rfl,HF.o⟩
    case round =>
     clear HI HF s0 s1 sf sz n0 n1 n2 n3 n4 n5 nf nz hkj hk hlt;obtain⟨k,st2,hkj,hk,rfl,HI,HD,HF⟩:=hrel;have hO:=HF.o.old hN (λk e=>by rcases e with e|e;exact e▸l1;exact e▸l2);by_cases hlt:k<c.nd.vars.length
     . obtain⟨v,hv⟩:∃v,c.nd.vars[k]?=some v:=⟨_,zsc hlt⟩;obtain⟨g,rfl,c0,c1,c2,c3,c4,c5,c6⟩:=zaM (HNt.o.old hO).vown hv;have hgN:=HNt.o.vlo g rfl;obtain⟨bk,hbk⟩:∃bk,d[k]?=some bk:=⟨_,zsc (by have:=Hdl.o;omega)⟩;have hD1:zb1 c.nd.ins d (c.nd.vars.drop k) k=(if (decide (c.nd.ins<=k)&&!bk)=true then [v.a] else [])++zb1 c.nd.ins d (c.nd.vars.drop (k+1)) (k+1):=(by obtain⟨h1,h2⟩:=List.getElem?_eq_some_iff.1 hv;rw[List.drop_eq_getElem_cons h1,zb1,h2];rw[show d.getD k false=bk by rw[List.getD_eq_getElem?_getD,hbk];rfl]);have HT2:Hid ((zb1 c.nd.ins d c.nd.vars 0).foldl rep st'=(zb1 c.nd.ins d (c.nd.vars.drop (k+1)) (k+1)).foldl rep ((if (decide (c.nd.ins<=k)&&!bk)=true then [v.a] else []).foldl rep st2)):=(by unfold Hid;rw[HD.o,hD1,List.foldl_append]);obtain⟨s0,s1,sf,sz⟩:=zp HI.o.x1;obtain⟨n0,n1,n2,n3,n4,n5,nf,nz⟩:=zt ((hO nb HNt.o.lo).trans HNt.o.blk);have b0:xC wr (w.heap.size+1) k (.bool bk):=zdF HI.o.x2 hbk;have bz:=ze HI.o.x2;have hnr:nb<wr.heap.size:=(by omega);have dlen:d.length=c.nd.vars.length:=Hdl.o;have i0:(0:Int)<=(k:Int):=(by omega);have i1:(k:Int)<(c.nd.vars.length:Int):=(by omega);have HTell:=za (λo=>zaa S kd lb bb sb nmv askv st2 v.a (wr.alloc o) (HI.o.rp.keep (zq wr o)));clear hD1 HD hO dlen hbk hv n0 n1 n2 n4 n5;by_cases hin:c.nd.ins<=k
       . have hin':(c.nd.ins:Int)<=(k:Int):=(by omega);cases bk with
         | true =>
           simp only[hin,decide_true,Bool.not_true,Bool.and_false] at HT2;clear hin;go_wp2_with fail;go_roundg (gk-1);case measure=>omega
           exact⟨k+1,st2,by omega,by omega,by go_num,HI.o.keep (zq wr _),HT2.o,HF.o.alloc _⟩
         | false =>
           simp only[hin,decide_true,Bool.not_false,Bool.and_true] at HT2;clear hin;go_wp2_with (go_at_call 124;refine (HTell.o _).mono ?_;rintro e w2 ⟨rfl,hRt,hFt⟩;have HRt:=za hRt;have HFt:=za hFt;clear hRt hFt);go_roundg (gk-1);case measure=>omega
           exact⟨k+1,rep st2 v.a,by omega,by omega,by go_num,(HI.o.keep (zq wr _)).told HRt.o HFt.o,HT2.o,(HF.o.alloc _).trans HFt.o⟩
       . have hin':¬(c.nd.ins:Int)<=(k:Int):=(by omega);simp only[hin,decide_false,Bool.false_and] at HT2;clear hin;go_wp2_with fail;go_roundg (gk-1);case measure=>omega
         exact⟨k+1,st2,by omega,by omega,by go_num,HI.o.keep (zq wr _),HT2.o,HF.o.alloc _⟩
     . have ek:k=c.nd.vars.length:=(by omega);subst ek;rw[List.drop_length,zb1] at HD;clear hO;go_wp2_with fail;first|go_end0|refine bodyPost_ret (results_none rfl _ _ _) rfl ?_
       refine⟨rfl,?_,HF.o⟩;rw[HT.o,HD.o];exact HI.o.rp
end
end Go.Proofs.YtmfkofhgdjechaaGreatDoor
