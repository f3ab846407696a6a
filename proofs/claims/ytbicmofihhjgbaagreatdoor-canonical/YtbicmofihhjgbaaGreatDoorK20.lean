/- Part 21 of the proof. -/
import Derived.Shelf.Strings.Builder1
import Derived.Test.YtbicmofihhjgbaaGreatDoorK19
set_option maxRecDepth 100000
set_option maxHeartbeats 8000000
namespace Go.Proofs.YtbicmofihhjgbaaGreatDoor
open Go.Proofs.Tryz
section
open Go.RowKit
variable {ts:Xl} {B N lb:Nat} {tv0:Xv} {W w0:Xw}
theorem LnI.room {W':Xw}(h:LnI lb B w0 tv0 W ts)(hB:xB W W'):∃tv,LnI lb B W' tv W' ts/\(∀j,tv.ownBlock=some j->j<W.heap.size)/\lb<W.heap.size/\∀(w':Xw) (ts':Xl),LnI lb B W' tv w' ts'->LnI lb B w0 tv0 w' ts':=by obtain⟨tv,h1,h2⟩:=h.ln;have hz:=h2.fr.size;have:=h.le;have:=h.lt;have:=hB.size;have h1':Ln lb B W' tv ts:=⟨(hB.block _ (ze h1.blk)).trans h1.blk,zi h1.own (λg _ _ e=>hB.block g (h1.own.lt g e).2)⟩;refine⟨tv,LnI.start h1' h.lt (by omega),λj e=>(h1.own.lt j e).2,by omega,λw' ts' k=>?_⟩;obtain⟨tv',k1,k2⟩:=k.ln;exact⟨h.lt,h.le,h.lo,tv',k1,(h2.trans ⟨Fr.of_below hB,λj e=>zM3 e⟩).trans k2⟩
theorem zvr {w:Xw}{n cp:Nat}{e:Xy}{g:Nat}{l:List Vr}(h:w.ownsRow B e 7 (xS g n cp) n (zb0 l)){a i:Nat}{v:Vr}(hk:l[a+i]?=some v) :
 w.cell? (xD g (a*7+i*7))=some (.string v.nm)/\w.cell? (xD g (a*7+i*7+1))=some (xI v.a)/\w.cell? (xD g (a*7+i*7+2))=some (xI (zaK v:Nat))/\w.cell? (xD g (a*7+i*7+3))=some (xI (zaA v:Nat))/\w.cell? (xD g (a*7+i*7+4))=some (xI v.on)/\w.cell? (xD g (a*7+i*7+5))=some (.string v.ck)/\w.cell? (xD g (a*7+i*7+6))=some (xI v.ca):=by
 obtain⟨g',e',u0,u1,u2,u3,u4,u5,u6⟩:=zaM h hk;cases e';rw[Nat.add_mul] at u0 u1 u2 u3 u4 u5 u6;exact⟨u0,u1,u2,u3,u4,u5,u6⟩
theorem zwF (h:LnI lb B w0 tv0 W ts)(hN:N<=lb)(n:Nod)(nb:Nat)(g cp:Nat)(ev:Xv)(xs:Xm)(hT:NT w0 N n nb (xS g n.vars.length cp) ev xs)(b1 b2 a m c:Nat)
 (hb1:xH w0 b1 #[xP lb] 175) (hb2:xH w0 b2 #[.slice (some (xD g (a*7))) m c] 118) (H1:¬b1=lb) (h2:¬b2=lb) (t1:¬tv0.ownBlock=some b1) (t2:¬tv0.ownBlock=some b2)
 (i:Nat) (v:Vr) (him:i<m) (_hm16:m<=16) (hi:n.vars[a+i]?=some v) (hm:(ts++zu7 v).length<=10000000000) :
 xK 93 (#[xI i]++#[xP b1,xP b2]) W (zu1 lb B w0 tv0 (ts++zu7 v)):=by
 have HKp:Hid (∀(w':Xw) (ts':Xl),LnI lb B w0 tv0 w' ts'->w'.cell? (xD b1 0)=some (xP lb)/\w'.cell? (xD b2 0)=some (.slice (some (xD g (a*7))) m c)/\w'.cell? (xD g (a*7+i*7))=some (.string v.nm)/\w'.cell? (xD g (a*7+i*7+1))=some (xI v.a)/\w'.cell? (xD g (a*7+i*7+2))=some (xI (zaK v:Nat))/\w'.cell? (xD g (a*7+i*7+3))=some (xI (zaA v:Nat))/\w'.cell? (xD g (a*7+i*7+4))=some (xI v.on)/\w'.cell? (xD g (a*7+i*7+5))=some (.string v.ck)/\w'.cell? (xD g (a*7+i*7+6))=some (xI v.ca)):=by intro w' ts' h';have hT2:=hT.old (h'.old hN);exact⟨(zu (h'.kept hb1 H1 t1)).1,(zu (h'.kept hb2 h2 t2)).1,zvr hT2.vown hi⟩
 obtain⟨p0,q0,v0,v1,v2,v3,v4,v5,v6⟩:=HKp.o _ _ h;have pz:=ze (h.kept hb1 H1 t1);have qz:=ze (h.kept hb2 h2 t2);have gz:g<W.heap.size:=by have:=((hT.old (h.old hN)).vown.lt g rfl).2;exact this
 have HD:=za (zvw h.drew v hm);unfold vrV at HD
 show Calls prog _ #[xI i,xP b1,xP b2] W _;go_enter func93,ntmps93;go_region_held3 (λw'=>w'.cell? (xD b1 0)=some (xP lb)/\w'.cell? (xD b2 0)=some (.slice (some (xD g (a*7))) m c)/\w'.cell? (xD g (a*7+i*7))=some (.string v.nm)/\w'.cell? (xD g (a*7+i*7+1))=some (xI v.a)/\w'.cell? (xD g (a*7+i*7+2))=some (xI (zaK v:Nat))/\w'.cell? (xD g (a*7+i*7+3))=some (xI (zaA v:Nat))/\w'.cell? (xD g (a*7+i*7+4))=some (xI v.on)/\w'.cell? (xD g (a*7+i*7+5))=some (.string v.ck)/\w'.cell? (xD g (a*7+i*7+6))=some (xI v.ca)) (first|go_keep|exact HKp.o _ _ H1) (first|(go_at_call 92;refine HD.o.mono ?_;rintro e w1 ⟨rfl,H1⟩));all_goals first|go_end0|refine bodyPost_ret (results_none rfl _ _ _) rfl ?_
 all_goals exact⟨rfl,H1⟩
theorem zwG {S:Xs}(H:LnI lb B w0 tv0 W ts)(hN:N<=lb)(h21:21<=N)(HK:Kn S w0)(n:Nod)(nb:Nat)(vs ev:Xv)(xs:Xm)(HT:NT w0 N n nb vs ev xs)(hw:zeJ n)(hLo:∀v∈n.vars,LoC v)(hE:∀q∈n.eqs,EqC S q)(hm:(ts++zu4 n).length<=10000000000) :
 xK 45 #[xP lb,xP nb] W (zu1 lb B w0 tv0 (ts++zu4 n)):=by
 have hTW:=HT.old (H.old hN);obtain⟨wA,eA⟩:∃wA,wA=(W.alloc (.cells #[xP lb] 175)).alloc (.cells #[xP nb] 90):=⟨_,rfl⟩;have hBA:xB W wA:=eA▸((Below.refl _ W).alloc (zMK _) _).alloc (by simp) _;have hNz:N<=W.heap.size:=by have:=H.lt;have:=H.le;have:=H.size;omega
 have hTA:=hTW.old (zm hBA hNz);have HR:=za (zdM wA hTA hw.io (by have:=hw.outs;have:=hw.io;omega));have htw:(W.alloc (.cells #[xP lb] 175)).alloc (.cells #[xP nb] 90)=wA:=eA.symm;have a1:xH wA W.heap.size #[xP lb] 175:=eA▸(Below.heap_alloc _ _ _ (by rw[zsb];omega)).trans (zc W _);have a2:wA.heap[W.heap.size+1]?=some (.cells #[xP nb] 90 (0,0)):=by have:=zc (W.alloc (.cells #[xP lb] 175)) (.cells #[xP nb] 90);rw[zsb] at this;rw[eA];exact this
 have A1:=za a1;have A2:=za a2;obtain⟨b2,_,z2⟩:=zu a2;have HM:=za hm;have HBA:=za hBA;clear hm hTW hTA hBA eA a1 a2;go_enter func45,ntmps45;go_upto_region 1 with fail;clear htw;go_wp2_with (go_at_call 88;refine HR.o.mono ?_);rintro e w1 ⟨g,cp,rfl,rfl,hB1⟩;have HB1:=za hB1;clear hB1;go_upto_region 2 with fail;obtain⟨b3,eb3⟩:∃b3,b3=w1.heap.size:=⟨_,rfl⟩;have hz1:=HB1.o.size;have hb3:W.heap.size+1<b3:=by omega
 have X3:(w1.alloc (.cells #[.slice (some (xD g (n.ins*7))) n.outs (cp-n.ins)] 118)).heap[b3]?=some (.cells #[.slice (some (xD g (n.ins*7))) n.outs (cp-n.ins)] 118 (0,0)):=eb3▸zc w1 _;have X1:(w1.alloc (.cells #[.slice (some (xD g (n.ins*7))) n.outs (cp-n.ins)] 118)).heap[W.heap.size]?=some (.cells #[xP lb] 175 (0,0)):=(Below.heap_alloc _ _ _ (by omega)).trans ((HB1.o.block _ (by omega)).trans A1.o);have X2:(w1.alloc (.cells #[.slice (some (xD g (n.ins*7))) n.outs (cp-n.ins)] 118)).heap[W.heap.size+1]?=some (.cells #[xP nb] 90 (0,0)):=(Below.heap_alloc _ _ _ (by omega)).trans ((HB1.o.block _ (by omega)).trans A2.o);have X0:xB W (w1.alloc (.cells #[.slice (some (xD g (n.ins*7))) n.outs (cp-n.ins)] 118)):=(HBA.o.trans (HB1.o.mono (by omega))).alloc (by omega) _;rw[<- eb3];refine zn (λWc=>(xH Wc b3 #[.slice (some (xD g (n.ins*7))) n.outs (cp-n.ins)] 118)/\xH Wc W.heap.size #[xP lb] 175/\xH Wc (W.heap.size+1) #[xP nb] 90/\xB W Wc) ⟨X3,X1,X2,X0⟩ ?_;clear X0 X1 X2 X3 A1 A2 HBA HB1 HR b2 z2 hz1 eb3;rintro Wc ⟨hX3,hX1,hX2,hBc⟩;obtain⟨tv,H0,Ht,hlb,HB⟩:=H.room hBc;have HTc:=(HT.old (H.old hN)).old (zm hBc hNz);have HKc:Kn S Wc:=HK.ln (H.bel hBc) (by omega);obtain⟨y0,y1,y2,y3,y4,y5,yf,yz⟩:=zt HTc.blk;have hnbN:=HTc.lo;have HKp:Hid (∀(w':Xw) (ts':Xl),LnI lb B Wc tv w' ts'->xC w' W.heap.size 0 (xP lb)/\xC w' (W.heap.size+1) 0 (xP nb)/\xC w' b3 0 (.slice (some (xD g (n.ins*7))) n.outs (cp-n.ins))/\xC w' nb 0 (.string n.nm)/\xC w' nb 2 (xS g n.vars.length cp)/\xC w' nb 3 (xI n.ins)/\xC w' nb 4 (xI n.outs)/\xC w' nb 5 ev):=λw' ts' h' =>
  ⟨(zu (h'.kept hX1 (by omega) (λe=>by have:=Ht _ e;omega))).1,(zu (h'.kept hX2 (by omega) (λe=>by have:=Ht _ e;omega))).1,(zu (h'.kept hX3 (by omega) (λe=>by have:=Ht _ e;omega))).1,(zuZ (h'.old hN) hnbN).trans y0,(zuZ (h'.old hN) hnbN).trans y2,(zuZ (h'.old hN) hnbN).trans y3,(zuZ (h'.old hN) hnbN).trans y4,(zuZ (h'.old hN) hnbN).trans y5⟩
 obtain⟨p1,p2,p3,r0,r2,r3,r4,r5⟩:=HKp.o _ _ H0;have hio:=hw.io;have hfew:=hw.few;have hcap:=znU HTc.vown;have i0:(0:Int)<=(n.ins:Int):=by omega
 have i1:(0:Int)<=(n.ins:Int)+(n.outs:Int):=by omega
 have i2:(n.ins:Int)+(n.outs:Int)<=(cp:Int):=by omega
 have i6:((n.ins:Int)+(n.outs:Int)).toNat=n.ins+n.outs:=by omega
 have i7:IntKind.i64.wrap ((n.ins:Int)+(n.outs:Int))=(n.ins:Int)+(n.outs:Int):=by rw[IntKind.wrap_i64];omega
 have i8:(n.ins:Int)+(n.outs:Int)<=(n.vars.length:Int):=by omega
 have z0:W.heap.size+1<Wc.heap.size:=ze hX2;have z3:b3<Wc.heap.size:=ze hX3;clear hBc y0 y1 y2 y3 y4 y5 yf;have HDn:Hid (∀k,LnI lb B Wc tv (Wc.drewN k) ts):=λk=>H0.bel ⟨rfl,rfl,rfl,zMK _,λ_ _=>rfl⟩;go_cut [5] (λv5 wx=>∃la lc,v5=.slice la (n.vars.length-(n.ins+n.outs)) lc/\Hid (0<n.vars.length-(n.ins+n.outs)->la=some (xD g ((n.ins+n.outs)*7)))/\Hid (LnI lb B Wc tv wx ts));case first =>
  by_cases hc:n.ins+n.outs=cp
  . have i9:(n.ins:Int)+(n.outs:Int)=(cp:Int):=by omega
    have i10:n.vars.length-(n.ins+n.outs)=0:=(by omega);go_quiet (fail);go_wp2_with fail;go_meet;exact⟨_,_,by rw[i10],za (λH=>by omega),HDn.o _⟩
  have j1:¬(n.ins+n.outs=cp):=hc;have j2:¬(cp=n.ins+n.outs):=by omega
  have j3:¬((n.ins:Int)+(n.outs:Int)=(cp:Int)):=by omega
  go_quiet (fail);go_wp2_with fail;go_meet;exact⟨_,_,rfl,za (λ_=>rfl),HDn.o _⟩
 case rest =>
  obtain⟨la,lc,rfl,Hla,H1⟩:=hcut;obtain⟨p1,p2,p3,r0,r2,r3,r4,r5⟩:=HKp.o _ _ H1.o;clear i0 i1 i2 i6 i7 i8 HDn;have hins:=hw.ins;have houts:=hw.outs;have b1z:W.heap.size<Wc.heap.size:=by omega
  have hv16:n.vars.length<=16:=hw.few;have HLi1:Hid (∀W' ts',LnI lb B Wc tv W' ts'->(ts'++zu5 ((n.vars.take n.ins).map zu7)).length<=10000000000->xK 90 #[xP lb,xI n.ins,.func (.func 91) #[] #[xP W.heap.size,xP (W.heap.size+1)]] W' (zu1 lb B Wc tv (ts'++zu5 ((n.vars.take n.ins).map zu7)))):=by
   intro W' ts' h' hm';have el:((n.vars.take n.ins).map zu7).length=n.ins:=(by simp;omega);have:=zvq (lb:=lb) (B:=B) (w0:=Wc) (tv0:=tv) 91 #[xP W.heap.size,xP (W.heap.size+1)] zwT ((n.vars.take n.ins).map zu7) (λi u hu W'' ts'' h'' hm''=>?_) W' ts' h' hm' (by omega)
   . rw[el] at this;exact this
   rw[List.getElem?_map,Option.map_eq_some_iff] at hu;obtain⟨x,hx,rfl⟩:=hu;have hx':n.vars[i]?=some x:=(by have hi:=(zMJ.1 hx).1;simp at hi;rw[List.getElem?_take_of_lt (by omega)] at hx;exact hx);exact zwj h'' hN n nb _ _ _ HTc _ _ hX1 hX2 (by omega) (by omega) (λe=>by have:=Ht _ e;omega) (λe=>by have:=Ht _ e;omega) i x hx' hm''
  have HLi2:Hid (∀W' ts',LnI lb B Wc tv W' ts'->(ts'++zu5 (((n.vars.drop n.ins).take n.outs).map zu7)).length<=10000000000->xK 90 #[xP lb,xI n.outs,.func (.func 93) #[] #[xP W.heap.size,xP b3]] W' (zu1 lb B Wc tv (ts'++zu5 (((n.vars.drop n.ins).take n.outs).map zu7)))):=by
   intro W' ts' h' hm';have el:(((n.vars.drop n.ins).take n.outs).map zu7).length=n.outs:=(by simp;omega);have:=zvq (lb:=lb) (B:=B) (w0:=Wc) (tv0:=tv) 93 #[xP W.heap.size,xP b3] zw2 (((n.vars.drop n.ins).take n.outs).map zu7) (λi u hu W'' ts'' h'' hm''=>?_) W' ts' h' hm' (by omega)
   . rw[el] at this;exact this
   rw[List.getElem?_map,Option.map_eq_some_iff] at hu;obtain⟨x,hx,rfl⟩:=hu;have hi:=(zMJ.1 hx).1;simp at hi;have hx':n.vars[n.ins+i]?=some x:=(by rw[List.getElem?_take_of_lt (by omega),List.getElem?_drop] at hx;exact hx);exact zwF h'' hN n nb g cp _ _ HTc _ _ n.ins n.outs _ hX1 hX3 (by omega) (by omega) (λe=>by have:=Ht _ e;omega) (λe=>by have:=Ht _ e;omega) i x (by omega) (by omega) hx' hm''
  have hmf:∀(fn:Go.Fn) (first cap:Xa) (w:Xw),(Instr.makeFunc fn first cap).run prog w=.ok (.func fn first cap) w:=λ_ _ _ _=>rfl;obtain⟨T1,hT1⟩:∃T,zu5 ((n.vars.take n.ins).map zu7)=T:=⟨_,rfl⟩;obtain⟨T2,hT2⟩:∃T,zu5 (((n.vars.drop n.ins).take n.outs).map zu7)=T:=⟨_,rfl⟩;obtain⟨vl,hvl⟩:∃vl,n.vars.drop (n.ins+n.outs)=vl:=⟨_,rfl⟩;have hvn:n.vars.length-(n.ins+n.outs)=vl.length:=by rw[<- hvl];simp
  have HEl:Hid (zu4 n=[⟨#[110,111,100,101]⟩,n.nm]++(T1++([⟨#[45,62]⟩]++(T2++((if 0<vl.length then [⟨#[118,97,114]⟩] else [])++(vl.flatMap zu9++([⟨#[123]⟩]++(n.eqs.flatMap zvd++[⟨#[125]⟩])))))))):=by show zu4 n=_;unfold zu4;rw[hT1,hT2,hvl]
  rw[HEl.o] at HM;rw[hT1] at HLi1;rw[hT2] at HLi2;rw[hvn] at Hla ⊢;have HVl:Hid (∀i v,vl[i]?=some v->n.vars[n.ins+n.outs+i]?=some v):=λi v hi=>by rw[<- hvl,List.getElem?_drop] at hi;exact hi
  have HTok:=za (show vl.length<=16 by omega);clear hT1 hT2 hvl hvn;go_upto_region 3 with fail;go_region_held3 (λw'=>w'.cell? (xD W.heap.size 0)=some (xP lb)/\w'.cell? (xD (W.heap.size+1) 0)=some (xP nb)/\w'.cell? (xD nb 0)=some (.string n.nm)) (first|go_keep|exact⟨(HKp.o _ _ H2.o).1,(HKp.o _ _ H2.o).2.1,(HKp.o _ _ H2.o).2.2.2.1⟩) (first|(go_at_call 89;refine (zu2 H1.o [⟨#[110,111,100,101]⟩,n.nm] 2 rfl (by have:=HM.o;simp only[zMM,zMR,zNb] at this ⊢;omega) _ rfl).mono ?_;rintro e w2 ⟨rfl,h2⟩;have H2:=za h2;clear h2));obtain⟨p1,p2,p3,r0,r2,r3,r4,r5⟩:=HKp.o _ _ H2.o;have zz2:=H2.o.size;go_upto_region 4 with fail;go_region_held3 (λw'=>w'.cell? (xD W.heap.size 0)=some (xP lb)/\w'.cell? (xD (W.heap.size+1) 0)=some (xP nb)/\w'.cell? (xD nb 3)=some (xI n.ins)) (first|go_keep|exact⟨(HKp.o _ _ H3.o).1,(HKp.o _ _ H3.o).2.1,(HKp.o _ _ H3.o).2.2.2.2.2.1⟩) (first|(go_at_call 90;refine (HLi1.o _ _ H2.o.drew (by have:=HM.o;simp only[zMM,zMR,zNb] at this ⊢;omega)).mono ?_;rintro e w3 ⟨rfl,h3⟩;have H3:=za h3;clear h3));clear p1 p2 p3 r0 r2 r3 r4 r5;obtain⟨p1,p2,p3,r0,r2,r3,r4,r5⟩:=HKp.o _ _ H3.o;have tk:=trivial;go_wp2_with (clear tk;go_at_call 89;refine (zu0 H3.o [⟨#[45,62]⟩] 1 rfl (by have:=HM.o;simp only[zMM,zMR,zNb] at this ⊢;omega) _ rfl).mono ?_);rintro e w4 ⟨rfl,h4⟩;have H4:=za h4;clear h4 p1 p2 p3 r0 r2 r3 r4 r5;obtain⟨p1,p2,p3,r0,r2,r3,r4,r5⟩:=HKp.o _ _ H4.o;have tk:=trivial;go_wp2_with (clear tk;go_at_call 90;refine (HLi2.o _ _ H4.o (by have:=HM.o;simp only[zMM,zMR,zNb] at this ⊢;omega)).mono ?_);rintro e w5 ⟨rfl,h5⟩;have H5:=za h5;clear h5 p1 p2 p3 r0 r2 r3 r4 r5;obtain⟨p1,p2,p3,r0,r2,r3,r4,r5⟩:=HKp.o _ _ H5.o;obtain⟨P,hP⟩:∃P,ts++[⟨#[110,111,100,101]⟩,n.nm]++T1++[⟨#[45,62]⟩]++T2=P:=⟨_,rfl⟩;obtain⟨V,hV⟩:∃V:Xl,(if 0<vl.length then [⟨#[118,97,114]⟩] else [])=V:=⟨_,rfl⟩;have HAll:Hid (ts++zu4 n=P++V++vl.flatMap zu9++[⟨#[123]⟩]++n.eqs.flatMap zvd++[⟨#[125]⟩]):=by show ts++zu4 n=_;rw[HEl.o,hV,<- hP];simp only[zMQ]
  have HMl:Hid (P.length+V.length+(vl.flatMap zu9).length+1+(n.eqs.flatMap zvd).length+1<=10000000000):=by
   have:=HM.o;rw[<- HEl.o,HAll.o] at this;simp only[zMM,zMR,zNb] at this
   show _<=_;omega
  rw[hP] at H5;have HV:=za hV;clear hP hV HM HEl H1 H2 H3 H4 HLi1 HLi2 zz2;go_upto_if 51 with fail;go_cut [] (λwx=>Hid (LnI lb B Wc tv wx (P++V)));case first =>
   by_cases h0:0<vl.length
   . have h0':(0:Int)<(vl.length:Int):=(by omega);have HeV:V=[⟨#[118,97,114]⟩]:=(by rw[<- HV.o,zM2 h0]);go_wp2_with (go_at_call 89;refine (zu0 H5.o [⟨#[118,97,114]⟩] 1 rfl (by have:=HMl.o;rw[HeV] at this;simp only[zMM,zMR,zNb] at this ⊢;omega) _ rfl).mono ?_;rintro e w6 ⟨rfl,h6⟩;have H6:=za h6;clear h6);go_meet;have:=H6.o;rw[HeV];exact this
   have h0':¬((0:Int)<(vl.length:Int)):=(by omega);go_wp2_with fail;go_meet;have HeV:V=[]:=by rw[<- HV.o,zM1 h0]
   show LnI lb B Wc tv w5 (P++V);rw[HeV,List.append_nil];exact H5.o
  case rest =>
   have H6:=hcut;clear hcut HV p1 p2 p3 r0 r2 r3 r4 r5 H5;have hLmax:=HTok.o;go_upto_region 10 with fail;go_loopg [57] (vl.length+1) (λj i wr=>∃k:Nat,k+j=vl.length+1/\k<=vl.length/\i=xI k/\Hid (LnI lb B Wc tv wr (P++V++(vl.take k).flatMap zu9)));case atStart=>exact⟨0,by omega,zMN _,rfl,za (by simpa using H6.o)⟩
   case round =>
    obtain⟨k,hkj,hk,rfl,HI⟩:=hrel;have hzk:=HI.o.size;have b1r:W.heap.size<wr.heap.size:=(by omega);by_cases hlt:k<vl.length
    . obtain⟨v,hv⟩:∃v,vl[k]?=some v:=⟨_,zsc hlt⟩;obtain rfl:=Hla.o (by omega);obtain⟨p1,_⟩:=HKp.o _ _ HI.o;obtain⟨v0,v1,v2,v3,v4,v5,v6⟩:=zvr (HTc.old (HI.o.old hN)).vown (HVl.o k v hv);have HeS:(vl.take (k+1)).flatMap zu9=(vl.take k).flatMap zu9++zu9 v:=(by rw[zeq hv];simp);have HL:=za (hLo v (zML (HVl.o k v hv)) _ _ _ _ _ _ (HI.o.alloc (.cells #[.string v.nm,xI v.a,xI (zaK v:Nat),xI (zaA v:Nat),xI v.on,.string v.ck,xI v.ca] 134)) (by
       have h1:=HMl.o;have h2:((vl.take (k+1)).flatMap zu9).length<=(vl.flatMap zu9).length:=by
        conv=>rhs;rw[<- List.take_append_drop (k+1) vl]
        rw[List.flatMap_append,zMM];omega
       rw[HeS] at h2;simp only[zMM] at h2 ⊢;omega))
      unfold vrV at HL;clear hv;go_wp2_with (go_at_call 94;refine HL.o.mono ?_;rintro e w7 ⟨rfl,H7⟩);go_roundg (gk-1);case measure=>omega
      refine⟨k+1,by omega,by omega,by go_num,za ?_⟩;have:=H7;rw[HeS,<- zMQ];exact this
    obtain rfl:k=vl.length:=by omega
    rw[List.take_length] at HI;obtain⟨p1,p2,p3,r0,r2,r3,r4,r5⟩:=HKp.o _ _ HI.o;have tk:=trivial;go_wp2_with (clear tk;go_at_call 89;refine (zu0 HI.o [⟨#[123]⟩] 1 rfl (by have:=HMl.o;simp only[zMM,zMR,zNb] at this ⊢;omega) _ rfl).mono ?_);rintro e w8 ⟨rfl,H8⟩;clear p1 p2 p3 r0 r2 r3 r4 r5;obtain⟨p1,p2,p3,r0,r2,r3,r4,r5⟩:=HKp.o _ _ H8;obtain⟨xe,ce,rfl⟩:=zB HTc.own;have hz8:=H8.size;have hnz:nb<w8.heap.size:=(by omega);have h16:n.eqs.length<=9223372036854775807:=by
     rcases HTc.own.2 with ⟨_,H⟩|⟨g,cap,cur,hv,_,_,h3,h4,_⟩
     . omega
     unfold maxLen at h4;omega
    go_upto_region 16 with fail;go_loopg [73] (n.eqs.length+1) (λj i wq=>∃k:Nat,k+j=n.eqs.length+1/\k<=n.eqs.length/\i=xI k/\Hid (LnI lb B Wc tv wq (P++V++vl.flatMap zu9++[⟨#[123]⟩]++(n.eqs.take k).flatMap zvd)));case atStart=>exact⟨0,by omega,zMN _,rfl,za (by simpa using H8)⟩
    case round =>
     obtain⟨k,hkq,hk,rfl,HQ⟩:=hrel;have hzk:=HQ.o.size;have b1r:W.heap.size<wr.heap.size:=(by omega);by_cases hlt:k<n.eqs.length
     . obtain⟨q,hq⟩:∃q,n.eqs[k]?=some q:=⟨_,zsc hlt⟩;obtain⟨ge,lv,rv,rfl,c0,c1,c2,hEq⟩:=zcd HTc.own HTc.eqs hq rfl;have hge:=HTc.elo ge rfl;have d0:=(zuZ (HQ.o.old hN) hge).trans c0;have d1:=(zuZ (HQ.o.old hN) hge).trans c1;have d2:=(zuZ (HQ.o.old hN) hge).trans c2;obtain⟨bb,_,_,rfl,_⟩:=hEq.tt.ptr;obtain⟨xl,cl,rfl⟩:=zB hEq.own;obtain⟨p1,_⟩:=HKp.o _ _ HQ.o;have hqm:=zML hq;have HeS:(n.eqs.take (k+1)).flatMap zvd=(n.eqs.take k).flatMap zvd++zvd q:=(by rw[zeq hq];simp);have HL:=za (hE q hqm _ _ _ _ _ _ _ _ _ (HQ.o.alloc (.cells #[.slice xl q.ns.length cl,xI q.a,xP bb] 184)) hN h21 HKc hEq (by
        have h1:=HMl.o;have h2:((n.eqs.take (k+1)).flatMap zvd).length<=(n.eqs.flatMap zvd).length:=by
         conv=>rhs;rw[<- List.take_append_drop (k+1) n.eqs]
         rw[List.flatMap_append,zMM];omega
        rw[HeS] at h2;simp only[zMM,zMR,zNb] at h2 ⊢;omega))
       clear hq hEq hqm c0 c1 c2;go_wp2_with (go_at_call 95;refine HL.o.mono ?_;rintro e w9 ⟨rfl,H9⟩);go_roundg (gk-1);case measure=>omega
       refine⟨k+1,by omega,by omega,by go_num,za ?_⟩;have:=H9;rw[HeS,<- zMQ];exact this
     obtain rfl:k=n.eqs.length:=by omega
     rw[List.take_length] at HQ;obtain⟨p1,_⟩:=HKp.o _ _ HQ.o;go_wp2_with (go_at_call 89;refine (zu0 HQ.o [⟨#[125]⟩] 1 rfl (by have:=HMl.o;simp only[zMM,zMR,zNb] at this ⊢;omega) _ rfl).mono ?_;rintro e w9 ⟨rfl,H9⟩);first|go_end0|refine bodyPost_ret (results_none rfl _ _ _) rfl ?_
     refine⟨rfl,HB _ _ ?_⟩;have:=H9;rw[HAll.o];exact this
end
section
open Go.RowKit
variable {bs:Xm} {B b:Nat} {w:Xw}
theorem Tryz.infoU8b:(prog.info? 5).map (λi=>(i.zero,i.size,i.bytes))=some (some (.int .u8 0),1,1):=by kernel_rfl
theorem Tryz.infoBld:(prog.info? 86).map (λi=>i.size)=some 2:=by kernel_rfl
theorem Tryz.liesBld:liesAt prog prog.depth 86 (2 / prog.cellsOf 86) 0 86 1=true:=by kernel_rfl
theorem zxe (b:Nat)(w:Xw)(h0:xC w b 0 (xP b)) :
 xK 96 #[xP b] w λe w'=>e=.returned (.tuple #[])/\w'=w:=by
 obtain⟨j,hj,_⟩:∃j,prog.info? 86=some j/\j.size=2:=by
  have:=Tryz.infoBld;cases h:prog.info? 86 with
  | none=>rw[h] at this;cases this
  | some j=>rw[h] at this;exact⟨j,rfl,by simpa using this⟩
 have hp:=Lib.run_neq_ptr_same (P:=prog) w (xD b 0) underlying84 hj;go_enter func96,ntmps96;go_wp2;first|go_end0|refine bodyPost_ret (results_none rfl _ _ _) rfl ?_
 exact⟨rfl,rfl⟩
theorem zwS (b:Nat)(w:Xw)(h0:xC w b 0 (.pointer none))(hsh:w.shape? b=some (86,2))(hf:w.frozen? (xD b 0)=false) :
 xK 96 #[xP b] w λe w'=>e=.returned (.tuple #[])/\w'=w.setCell (xD b 0) (xP b):=by
 obtain⟨j,hj,hjs⟩:∃j,prog.info? 86=some j/\j.size=2:=by
  have:=Tryz.infoBld;cases h:prog.info? 86 with
  | none=>rw[h] at this;cases this
  | some j=>rw[h] at this;exact⟨j,rfl,by simpa using this⟩
 have hp:=λw=>Lib.run_neq_ptr_same (P:=prog) w (xD b 0) underlying84 hj;have hu:=Lib.run_to_unsafe (P:=prog) w (xD b 0) underlying84 underlying155 hj (by rw[hjs];decide) hsh (Nat.zero_lt_succ 1);have hv:=Lib.run_from_unsafe (P:=prog) w (xD b 0) underlying155 underlying84 hj hsh Tryz.liesBld;have hc:(callFunc 159 #[xP b]).run prog w=.ok (.value (xP b)) w:=by rw[run_callFunc_extern func159 (by kernel_rfl) (by kernel_rfl) (by kernel_rfl) (e:=Extern.AbiNoEscape.same) (by kernel_rfl)];rw[Lib.run_noEscape];rfl
 go_enter func96,ntmps96;go_wp2;first|go_end0|refine bodyPost_ret (results_none rfl _ _ _) rfl ?_
 exact⟨rfl,rfl⟩
theorem zvM (h:Lib.IsBuilder 86 5 B b bs w) :
 xK 96 #[xP b] w λe w'=>e=.returned (.tuple #[])/\Lib.BuilderAt 86 5 B b (xP b) bs w'/\Below B w w':=by
 rcases h with h|h
 . refine (zwS b w h.cell0 h.shape h.frozen0).mono ?_;rintro e w' ⟨rfl,rfl⟩;exact⟨rfl,h.used _,(Below.refl B w).setCell (p:=(xD b 0)) h.1 _⟩
 refine (zxe b w h.cell0).mono ?_;rintro e w' ⟨rfl,rfl⟩;exact⟨rfl,h,Below.refl B _⟩
theorem zw9 (c:Int)(h:Lib.IsBuilder 86 5 B b bs w)(hlen:bs.length+1<=10000000000000)(hBw:B<=w.heap.size) :
 xK 48 #[xP b,.int .u8 c] w λe w'=>e=.returned .nilIface/\Lib.BuilderAt 86 5 B b (xP b) (bs++[.int .u8 c]) w'/\Below B w w':=by
 obtain⟨i0,hi,hz0,hz1,hz2⟩:=info_parts Tryz.infoU8b;have HC:=za (zvM h);clear h;go_enter func48,ntmps48;go_wp2_with (go_at_call 96;refine HC.o.mono ?_);rintro e w1 ⟨rfl,h1,Hb1⟩;obtain⟨hB,v,Hbk,Hown,Hne⟩:=h1;have c0:w1.cell? (xD b 0)=some (xP b):=by rw[Lib.cell_of_heap Hbk];rfl
 have c1:w1.cell? (xD b 1)=some v:=by rw[Lib.cell_of_heap Hbk];rfl
 have hlt:b<w1.heap.size:=(Array.getElem?_eq_some_iff.1 Hbk).1;have hz:=Hb1.size;go_wp2_with (at_builtin;refine wpList_append_own _ rfl _ _ 29 rfl B 5 i0 (.int .u8 0) 1 1 underlying29 hi hz0 hz1 hz2 rfl (by decide) _ _ _ rfl (Hown.alloc _) (xD w1.heap.size 0) 1 1 [.int .u8 c] rfl rfl ?c1 ?c2 ?c3 ?c4 ?c5 ?_);case c1 =>
  intro j u hj
  match j,hj with
  | 0,hj=>simp at hj;subst hj;simp[Addr.add]
 case c2=>intro u hu;simp at hu;subst hu;rfl
 case c3=>unfold maxLen;omega
 case c4=>omega
 case c5=>simp;omega
 intro v' w2 hown' Hgrow _;have Hb2:w2.heap[b]?=some (.cells #[xP b,v] 86 (0,0)):=by rw[Hgrow.block b (by simp;omega) (λe=>Hne e.symm),Lib.alloc_old w1 _ b hlt];exact Hbk
 have d0:w2.cell? (xD b 0)=some (xP b):=by rw[Lib.cell_of_heap Hb2];rfl
 have d1:w2.cell? (xD b 1)=some v:=by rw[Lib.cell_of_heap Hb2];rfl
 have f1:w2.frozen? (xD b 1)=false:=Lib.frozen_of_heap Hb2 1;obtain⟨g,cap,rfl⟩:∃g cap,v'=xS g (bs.length+1) cap:=by
  rcases hown'.2 with ⟨_,h0⟩|⟨g,cap,cur,hv,_⟩
  . omega
  exact⟨g,cap,hv⟩
 have Hown':=za hown';clear hown';go_wp2;go_ret;refine⟨rfl,?_,?_⟩
 . exact Lib.BuilderAt.put (T:=86) (e:=5) hB Hb2 (bs':=bs++[.int .u8 c]) (by simpa using Hown'.o) (by decide)
 exact ((Hb1.alloc (by omega) _).grown Hgrow (by simp;omega) (λk hk=>(Hown.lt k hk).1)).setCell (p:=(xD b 1)) hB _
theorem zwE (s:Xb)(h:Lib.IsBuilder 86 5 B b bs w)(hlen:bs.length+s.size<=10000000000000)(hBw:B<=w.heap.size) :
 xK 46 #[xP b,.string s] w λe w'=>e=.returned (.tuple #[xI s.size,.nilIface])/\Lib.BuilderAt 86 5 B b (xP b) (bs++Lib.strCells s) w'/\Below B w w':=by
 obtain⟨i0,hi,hz0,hz1,hz2⟩:=info_parts Tryz.infoU8b;have HC:=za (zvM h);clear h;go_enter func46,ntmps46;go_wp2_with (go_at_call 96;refine HC.o.mono ?_);rintro e w1 ⟨rfl,h1,Hb1⟩;obtain⟨hB,v,Hbk,Hown,Hne⟩:=h1;have c0:w1.cell? (xD b 0)=some (xP b):=by rw[Lib.cell_of_heap Hbk];rfl
 have c1:w1.cell? (xD b 1)=some v:=by rw[Lib.cell_of_heap Hbk];rfl
 have hlt:b<w1.heap.size:=(Array.getElem?_eq_some_iff.1 Hbk).1;have hz:=Hb1.size;go_wp2_with (at_builtin;refine Lib.wpList_append_own_string _ rfl _ _ 29 9 rfl B 5 i0 underlying29 underlying9 hi hz0 hz1 hz2 _ _ _ rfl Hown s rfl ?c3 ?c4 ?c5 ?_);case c3=>unfold maxLen;omega
 case c4=>omega
 case c5=>omega
 intro v' w2 hown' Hgrow _;have Hb2:w2.heap[b]?=some (.cells #[xP b,v] 86 (0,0)):=by rw[Hgrow.block b hlt (λe=>Hne e.symm)];exact Hbk
 have d0:w2.cell? (xD b 0)=some (xP b):=by rw[Lib.cell_of_heap Hb2];rfl
 have d1:w2.cell? (xD b 1)=some v:=by rw[Lib.cell_of_heap Hb2];rfl
 have f1:w2.frozen? (xD b 1)=false:=Lib.frozen_of_heap Hb2 1;obtain⟨ao,n',cap,rfl⟩:∃ao n' cap,v'=.slice ao n' cap:=by
  rcases hown'.2 with ⟨hv,_⟩|⟨g,cap,cur,hv,_⟩
  . exact⟨_,_,_,hv⟩
  exact⟨_,_,_,hv⟩
 have Hown':=za hown';clear hown';go_wp2;go_ret2;refine⟨rfl,?_,?_⟩
 . exact Lib.BuilderAt.put (T:=86) (e:=5) hB Hb2 (bs':=bs++Lib.strCells s) (by simpa [Lib.strCells_length] using Hown'.o) (by decide)
 exact (Hb1.grown Hgrow (by omega) (λk hk=>(Hown.lt k hk).1)).setCell (p:=(xD b 1)) hB _
end
section
open Go.RowKit
theorem zv6 {B b:Nat}{bs:Xm}{w w':Xw}(h:Lib.IsBuilder 86 5 B b bs w)(ho:Old w.heap.size w w'):Lib.IsBuilder 86 5 B b bs w':=by
 rcases h with ⟨h1,v,h2,h3,h4⟩|⟨h1,v,h2,h3,h4⟩
 . exact zM3 ⟨h1,v,(ho b (ze h2)).trans h2,zi h3 (λg _ _ e=>ho g (h3.lt g e).2),h4⟩
 exact zM4 ⟨h1,v,(ho b (ze h2)).trans h2,zi h3 (λg _ _ e=>ho g (h3.lt g e).2),h4⟩
theorem zv9 {ns:List Nod}{k:Nat}{n:Nod}(h:ns[k]?=some n):zu3 (ns.take (k+1))=zu3 (ns.take k)++zvg n:=by unfold zu3;rw[zeq h];simp
theorem zw3 (n:Nod):0<(zu4 n).length:=by unfold zu4;simp
theorem zwO (S:Xs)(N:Nat)(ns:List Nod)(gb:Nat)(w:Xw)(HK:Kn S w)(hP:PT w N ns (xP gb))(hN:N<=w.heap.size)(h21:21<=N)(hwf:∀n∈ns,zeJ n)(hE:∀n∈ns,(∀v∈n.vars,LoC v)/\∀q∈n.eqs,EqC S q)(hlen:∀n∈ns,(zu4 n).length<=10000000000)(Hby:(zu3 ns).length<=1000000000000) :
 xK 29 #[xP gb] w (λe w'=>e=.returned (.string ⟨(zu3 ns).toArray⟩)/\xB w w'):=by
 obtain⟨gb',gv,xs,e0,hgb,hblk,HNL⟩:=hP;cases e0;obtain⟨c0,cf,cz⟩:=zu hblk;obtain⟨xa,cp,rfl⟩:=zB HNL.own;have hfew:=HNL.few;have Hwf:=za hwf;have HE:=za hE;have Hlen:=za hlen;clear hwf hE hlen hblk;go_enter func29,ntmps29;go_upto_region 3 with fail;go_loopg [12] (ns.length+1) (λj i wr=>∃k:Nat,k+j=ns.length+1/\k<=ns.length/\i=xI k/\Hid (Lib.IsBuilder 86 5 w.heap.size w.heap.size (Lib.byteCells (zu3 (ns.take k))) wr)/\Hid (xB w wr));case atStart=>exact⟨0,by omega,zMN _,rfl,za (zM3 ⟨zMK _,_,zc w _,World.ownsRow_nil _ _ _ _,by simp[Value.ownBlock]⟩),za ((Below.refl _ w).alloc (zMK _) _)⟩
 case round =>
  obtain⟨k,hkj,hk,rfl,HBd,HB⟩:=hrel;have hzr:=HB.o.size;by_cases hlt:k<ns.length
  . obtain⟨n,hn⟩:∃n,ns[k]?=some n:=⟨_,zsc hlt⟩;have hnm:=zML hn;have HNr:=HNL.old (zm HB.o hN);obtain⟨v,hv,nb,vs,ev,ys,rfl,hNT⟩:=HNr.at' k n hn;obtain⟨g,rfl,hcell⟩:=zbE HNr.own hv;have hbz:w.heap.size<wr.heap.size:=by rcases HBd.o with ⟨_,_,h2,_⟩|⟨_,_,h2,_⟩ <;> exact ze h2
    obtain⟨wl,ewl⟩:∃wl,wl=wr.alloc (.cells #[.slice none 0 0] 93):=⟨_,rfl⟩;have hBl:xB wr wl:=ewl▸(Below.refl _ wr).alloc (zMK _) _;have hzl:wl.heap.size=wr.heap.size+1:=(by rw[ewl];simp);have hLn:Ln wr.heap.size (wr.heap.size+1) wl (.slice none 0 0) []:=⟨ewl▸zc wr _,World.ownsRow_nil _ _ _ _⟩;have hNl:N<=wr.heap.size:=(by omega);have hKl:Kn S wl:=(by have hB2:xB w wl:=HB.o.trans (hBl.mono hzr);refine⟨HK.gl.of (T:=λ_=>False) (Fr.of_below hB2) (λ_ e=>e.elim),?_⟩;have h3:=HK.tab;unfold Lib.TabIs World.var? at h3 ⊢;rw[Tryz.gPow] at h3 ⊢;simp only[Option.bind_some] at h3 ⊢;rw[hB2.block _ (by have:=HK.gl.size;omega)];exact h3);have HC:=za (zwG (LnI.start hLn (by omega) (by omega)) (N:=N) (by omega) h21 hKl n nb vs ev ys (hNT.old (zm hBl hNl)) (Hwf.o n hnm) (HE.o n hnm).1 (HE.o n hnm).2 (by simpa using Hlen.o n hnm));have htw:wr.alloc (.cells #[.slice none 0 0] 93)=wl:=ewl.symm;have HS:=za (zv9 hn);have HOl:=za (zm hBl (zMK _));have HB2:=za (HB.o.trans (hBl.mono hzr));have hlz:wr.heap.size<wl.heap.size:=(by omega);have HL6:=za (Hlen.o n hnm);have Hne:=za (zw3 n);clear hn hnm HNr hv hNT hBl hzl hLn hKl ewl HE Hwf Hlen;have tk:=trivial;go_wp2_with (clear tk;go_at_call 45;refine HC.o.mono ?_);rintro e w2 ⟨rfl,h2⟩;rw[List.nil_append] at h2;obtain⟨tv2,hLn2,hLf2⟩:=h2.ln;have HO2:Hid (Old wr.heap.size wr w2):=λj hj=>(h2.old (zMK _) j hj).trans (HOl.o j hj);have HBd2:=za (zv6 HBd.o HO2.o);have HT2:=za (And.intro hLf2.fr.os (And.intro hLf2.fr.tape hLf2.fr.output));have hz2:=h2.size;obtain⟨t0,_,tz⟩:=zu hLn2.blk;obtain⟨gt,ct,rfl,_⟩:=zM hLn2.own Hne.o;have HJ:=za (Tryz.strings_Join gt 0 ct (zu4 n) ⟨#[32]⟩ w2 (λj x hx=>by
     have:=zhv hLn2.own (j:=j) (u:=.string x) (by simp[hx]);rw[Nat.zero_add];exact this) ((hLn2.own.lt gt rfl).2) (by have:=HL6.o;omega) (by
     rcases hLn2.own.2 with ⟨e,_⟩|⟨_,_,_,e,_,_,h3,_⟩
     . cases e
     . cases e;exact h3) (by
     have h1:(zvg n).length<=(zu3 (ns.take (k+1))).length:=(by rw[HS.o];simp);have h3:(zu3 (ns.take (k+1))).length<=(zu3 ns).length:=by
      unfold zu3
      conv=>rhs;rw[<- List.take_append_drop (k+1) ns]
      rw[List.flatMap_append,zMM];omega
     have h4:=Hby;have H5:(Lib.join ((zu4 n).map (·.data.toList)) [32]).length<=(zvg n).length:=by unfold zvg Lib.join;simp
     show (Lib.join ((zu4 n).map (·.data.toList)) [32]).length<=_;omega))
    have HLj:Hid ((zu3 (ns.take k)).length+(Lib.join ((zu4 n).map (·.data.toList)) [32]).length+1<=1000000000000):=by
     have h1:(zu3 (ns.take k)).length+(zvg n).length=(zu3 (ns.take (k+1))).length:=(by rw[HS.o];simp);have h3:(zu3 (ns.take (k+1))).length<=(zu3 ns).length:=by
      unfold zu3
      conv=>rhs;rw[<- List.take_append_drop (k+1) ns]
      rw[List.flatMap_append,zMM];omega
     have h4:=Hby;have H5:(Lib.join ((zu4 n).map (·.data.toList)) [32]).length+1=(zvg n).length:=by unfold zvg Lib.join;simp
     show _<=_;omega
    obtain⟨J,hJ⟩:∃J,Lib.join ((zu4 n).map (·.data.toList)) [32]=J:=⟨_,rfl⟩;have HJe:Hid (zvg n=J++[10]):=(by show zvg n=_;rw[<- hJ];rfl);have HJ':Hid (xK 47 #[.slice (some (xD gt 0)) (zu4 n).length ct,.string ⟨#[32]⟩] w2 λe w'=>e=.returned (.string ⟨J.toArray⟩)/\xB w2 w'):=(by rw[<- hJ];exact HJ.o);rw[hJ] at HLj;obtain⟨ln,hln⟩:∃ln,(zu4 n).length=ln:=⟨_,rfl⟩;rw[hln] at HJ' t0;clear hJ HJ hLn2 hLf2 h2 HC hln Hne HL6;have tk:=trivial;go_wp2_with (clear tk;go_at_call 47;refine HJ'.o.mono ?_);rintro e w3 ⟨rfl,hB3⟩;have hz3:=hB3.size;have HBd3:=za (zv6 HBd2.o (zm hB3 (zMK _)));have HB3:Hid (xB w w3):=(by have h1:Old w.heap.size wr w3:=λj hj=>((zm hB3 (zMK _)) j (by omega)).trans (HO2.o j (by omega));exact⟨hB3.os.trans (HT2.o.1.trans HB2.o.os),hB3.tape.trans (HT2.o.2.1.trans HB2.o.tape),hB3.output.trans (HT2.o.2.2.trans HB2.o.output),by omega,λj hj=>(h1 j hj).trans (HB.o.block j hj)⟩);have HW:=za (zwE ⟨J.toArray⟩ HBd3.o (by rw[Lib.byteCells_length];have:=HLj.o;show _+J.toArray.size<=_;simp;omega) (by omega));clear hB3;have tk:=trivial;go_wp2_with (clear tk;go_at_call 46;refine HW.o.mono ?_);rintro e w4 ⟨rfl,h4,hB4⟩;have hz4:=hB4.size;have HW2:=za (zw9 10 (zM4 h4) (by rw[zMM,Lib.byteCells_length,Lib.strCells_length];have:=HLj.o;show _+J.toArray.size+1<=_;simp;omega) (by omega));have HB4:=za (HB3.o.trans hB4);clear h4 hB4;have tk:=trivial;go_wp2_with (clear tk;go_at_call 48;refine HW2.o.mono ?_;rintro e w5 ⟨rfl,H5,hB5⟩;have HB5:=za (HB4.o.trans hB5);clear hB5);go_roundg (gk-1);case measure=>omega
    refine⟨k+1,by omega,by omega,by go_num,za (zM4 ?_),HB5⟩;have:=H5;rw[HS.o,HJe.o];have e1:Lib.byteCells (zu3 (ns.take k)++(J++[10]))=Lib.byteCells (zu3 (ns.take k))++Lib.strCells ⟨J.toArray⟩++[.int .u8 10]:=(by simp[Lib.byteCells,Lib.strCells]);rw[e1];exact this
  obtain rfl:k=ns.length:=by omega
  rw[List.take_length] at HBd;go_wp2_with (go_at_call 49;refine (Tryz.Builder_String_any_k _ _ _ _ (Lib.IsBuilderF.of HBd.o) hzr).mono ?_;rintro e w6 ⟨rfl,_,HB6,_⟩);go_ret;exact⟨rfl,HB.o.trans HB6⟩
end
section
open Go.RowKit
variable {r17 r18:Fn}
theorem Kn.bl {S:Xs}{w W:Xw}(h:Kn S w)(hB:xB w W):Kn S W:=by refine⟨h.gl.of (T:=λ_=>False) (Fr.of_below hB) (λ_ e=>e.elim),?_⟩;have h3:=h.tab;unfold Lib.TabIs World.var? at h3 ⊢;rw[Tryz.gPow] at h3 ⊢;simp only[Option.bind_some] at h3 ⊢;rw[hB.block _ (by have:=h.gl.size;omega)];exact h3
theorem zBy (hX:zX 18 190 r18)(hK:zdI 18 r17)(g17:zv 17 r17)(g18:zv 18 r18)(S:Xs)(src:Xb)(R:St×List Nd)(hR:zgo r17 r18 1300 src=R)(hs:src.size<=1200)(he:R.1.er=0)(h6:R.2.length<=6)(ns:List Nod)(hn:ze5 R.2 ns)(w:Xw)(hG:Gl S w) :
 xK 28 #[.string src] w (λe w'=>∃gb,e=.returned (.tuple #[xP gb,.nilIface])/\PT w' w'.heap.size ns (xP gb)/\xB w w'):=by
 refine (zni hX hK g17 g18 S 1300 (by decide) (by decide) src w hG hs (R:=R) hR).mono ?_;rintro e w' ⟨_,hok,hB⟩;obtain⟨a,rfl,hPG⟩:=hok he;obtain⟨ns',hns,hPT⟩:=zpt hPG h6;have:=zCJ hns hn;subst this;obtain⟨gb,gv,xs,e0,rest⟩:=hPT;cases e0;exact⟨gb,rfl,⟨gb,gv,xs,rfl,rest⟩,hB⟩
theorem zzF (hX:zX 18 190 r18)(hK:zdI 18 r17)(g17:zv 17 r17)(g18:zv 18 r18)(S:Xs)(src:Xb)(k p:Nat)(h:(1200<src.size/\k=1/\p=0)∨(src.size<=1200/\(zgo r17 r18 1300 src).1.er≠0/\k=(zgo r17 r18 1300 src).1.er/\p=(zgo r17 r18 1300 src).1.at'))(w:Xw)(hG:Gl S w) :
 xK 28 #[.string src] w (λe w'=>e=.returned (.tuple #[.pointer none,zvh S zfv k p])/\xB w w'):=by
 rcases h with ⟨h1,rfl,rfl⟩|⟨h1,h2,h3,h4⟩
 . refine (zB3 S src w hG h1).mono ?_;rintro e w' ⟨rfl,hB⟩;exact⟨rfl,hB⟩
 refine (zni hX hK g17 g18 S 1300 (by decide) (by decide) src w hG h1 rfl).mono ?_;rintro e w' ⟨hno,_,hB⟩;refine⟨?_,hB⟩;rw[hno h2,h3,h4];unfold za2 zvh;rw[zM1 h2]
theorem zA1 (S:Xs)(src:Xb)(k p:Nat)(hk1:1<=k)(hk2:k<=11)(w:Xw)(hG:Gl S w)(hE:Sn S w)(hT:ErT w)(hR:xK 28 #[.string src] w (λe w'=>e=.returned (.tuple #[.pointer none,zvh S zfv k p])/\xB w w')) :
 xK 11 #[.string src] w (λe w'=>e=.returned (.tuple #[.string ⟨#[]⟩,xI k,xI p])/\xB w w'):=by
 have HR:=za hR;have HAn:=za (λW (hB:xB w W)=>zvk S zfv k p W hk1 hk2 (hG.of (T:=λ_=>False) (Fr.of_below hB) (λ_ e=>e.elim)) (λi j i1 i2 j1 j2 W' hB'=>hE i j i1 i2 j1 j2 W' (hB.trans (hB'.mono hB.size))) ((World.cell?_of_block (w:=w) (a:=(xD 7 0)) (hB.block _ (World.block_lt_of_cell? w (xD 7 0) hT))).trans hT));unfold zvh zeQ at HR HAn;clear hR hG hE hT;go_enter func11,ntmps11
 go_wp2_with (first
  | (go_at_call 27;refine (HAn.o _ HB1.o).mono ?_;rintro e w2 ⟨rfl,hB⟩;have HB2:=za hB)
  | (go_at_call 28;refine HR.o.mono ?_;rintro e w1 ⟨rfl,hB⟩;have HB1:=za hB))
 exact bodyPost_ret (v:=.tuple #[.string ⟨#[]⟩,xI k,xI p]) (by simp[results,results11,go_sem]) rfl ⟨rfl,HB1.o.trans (HB2.o.mono HB1.o.size)⟩
end
section
open Go.RowKit
theorem zAY (S:Xs)(src:Xb)(ns:List Nod)(hwf:∀n∈ns,zeJ n)(hn:∀n∈ns,(∀v∈n.vars,LoC v)/\∀q∈n.eqs,EqC S q)(hlen:∀n∈ns,(zu4 n).length<=10000000000)(hby:(zu3 ns).length<=1000000000000)(w:Xw)(hK:Kn S w)
 (hR:xK 28 #[.string src] w (λe w'=>∃gb,e=.returned (.tuple #[xP gb,.nilIface])/\PT w' w'.heap.size ns (xP gb)/\xB w w')) :
 xK 11 #[.string src] w (λe w'=>e=.returned (.tuple #[.string ⟨(zu3 ns).toArray⟩,xI 0,xI 0])/\xB w w'):=by
 have HRr:=za hR;have HTx:=za (λW gb (hB:xB w W) (hP:PT W W.heap.size ns (xP gb))=>zwO S W.heap.size ns gb W (hK.bl hB) hP (zMK _) (by have:=hK.gl.size;have:=hB.size;omega) hwf hn hlen hby);obtain⟨T,hT⟩:∃T,(zu3 ns).toArray=T:=⟨_,rfl⟩;rw[hT] at HTx ⊢;clear hR hn hlen hby hwf;go_enter func11,ntmps11
 go_wp2_with (first
  | (go_at_call 29;revert HP1;intro HP1;refine (HTx.o _ _ HB1.o HP1.o).mono ?_;rintro e w2 ⟨rfl,hB⟩;have HB2:=za hB)
  | (go_at_call 28;refine HRr.o.mono ?_;rintro e w1 ⟨gb,rfl,hP,hB⟩;have hz1:=hB.size;have HP1:=za hP;have HB1:=za hB))
 exact bodyPost_ret (v:=.tuple #[.string ⟨T⟩,xI 0,xI 0]) (by simp[results,results11,go_sem]) rfl ⟨rfl,HB1.o.trans (HB2.o.mono hz1)⟩
end
section
theorem zAc {r17 r18:Fn}(e17:r17=(lev 17).ex)(e18:r18=(lev 18).ex)(g17:zv 17 r17)(g18:zv 18 r18){g:Nat}{src:Xb}(hs:src.size<=1200){R:St×List Nd}(hR:zgo r17 r18 g src=R)(he:R.1.er=0) :
 (∀d∈R.2,NdR d/\NdP d)/\R.2.length<=6/\∃ns,ze5 R.2 ns/\(∀n∈ns,zeJ n)/\∀n∈ns,n.terms.length<=1201:=by
 have z17:ZK r17:=by rw[e17];exact (zCG 17).1
 have z18:ZK r18:=by rw[e18];exact (zCG 18).1
 have s17:PoD 17 r17:=by rw[e17];exact (zJe 17).1
 have s18:PoD 18 r18:=by rw[e18];exact (zJe 18).1
 obtain⟨a17,x17⟩:=zEG e17;obtain⟨a18,x18⟩:=zEG e18;have hI:Inv 0 (⟨src,zZ src 0,0,0,0,[]⟩:St):=zmc hs;subst hR;have k1:=zE2 z17 z18 (g:=g) hs;have k2:=zCh a17 a18 x17 x18 g17 g18 g src hI he;have k3:=zLj s17 s18 g17 g18 g src hI he;obtain⟨ns,h1,h2⟩:=zF1 (λd hd=>zK7 (k3 d hd));exact⟨λd hd=>⟨⟨k1 d hd,k2 d hd,zK7 (k3 d hd)⟩,k3 d hd⟩,zDZ r17 r18 g src,ns,h1,zGg a17 a18 x17 x18 g17 g18 hs he h1,h2⟩
end
section
open Go.RowKit
theorem zFQ {L:List Ex}(hS:∀e∈L,exS e){x:Nat}{t:Tm}(h:zeA L x t):nmB t=true:=by
 induction h with
 | mk x ex ts hx hl hr ih =>
   have hex:=hS ex (zML hx);have hv:zbF ex.op.toList ex.n<=9223372036854775807:=(by unfold zbF;split;exact hex.1;exact zMN _);have hts:∀ts':List Tm,(∀u∈ts',nmB u=true)->nmL ts'=true:=by
    intro ts';induction ts' with
    | nil=>intro _;rfl
    | cons u l ih2=>intro hu;rw[nmL,hu u (zMS ..),ih2 (λy hy=>hu y (zMX _ hy))];rfl
   rw[nmB,decide_eq_true hv,hts ts (λu hu=>?_)]
   . rfl
   obtain⟨i,hi⟩:=List.mem_iff_getElem?.1 hu;have hil:=(zMJ.1 hi).1;exact ih i _ u (zsc (show i<ex.ins.length by omega)) hi
theorem zmA (w:Xw):xK 27 #[.nilIface] w (λe w'=>e=.returned (.tuple #[xI 0,xI 0])/\w=w'):=by go_enter func27,ntmps27;go_wp2_with fail;exact bodyPost_ret (v:=.tuple #[xI 0,xI 0]) (by simp[results,results27,go_sem]) rfl ⟨rfl,rfl⟩
end
section
open Go.RowKit
variable {ns:List Nod} {N:Nat}
attribute [local go_sem ↓] Go.wp_at_zero Go.wp_at_succ
theorem NL.ne {w:Xw}{gv:Xv}{xs:Xm}(h:NL w N ns gv xs):NE w N ns gv:=by
 have hc:=h.own;rcases h.own.2 with ⟨h1,h2⟩|⟨g,cap,cur,hv,_,_,h3,h4,_⟩
 . exact⟨none,0,by rw[h1,h2],by omega,by omega,λhne=>absurd (List.length_eq_zero_iff.1 h2) hne⟩
 subst hv;refine⟨some (xD g 0),cap,rfl,h3,by unfold maxLen at h4;omega,λ_=>⟨g,rfl,h.lo g rfl,λi n hi=>?_⟩⟩;obtain⟨u,hu,hnp⟩:=h.at' i n hi;have:=hc.cells (g:=g) rfl i u hu;have e0:((xD g 0):Addr).add i=⟨g,i,none⟩:=by cases i <;> simp[Addr.add]
 rw[e0] at this;exact⟨u,this,hnp⟩
theorem zh3 {pv:Xv}(k:Nat)(n:Nod)(w:Xw)(h:PT w N ns pv)(hN:N<=w.heap.size)(hk:ns[k]?=some n) :
 xK 55 #[pv,xI k] w (λe w'=>∃x cp nb,e=.returned (.agg #[.slice x k cp,xP nb])/\ScV w' N ⟨ns.take k,n⟩ (.slice x k cp) (xP nb)/\xB w w'):=by
 obtain⟨gb,gv,xs,rfl,hgb,hg,hl⟩:=h;have hlt:=(zMJ.1 hk).1;have hE:=hl.ne;have h6:=hl.few;obtain⟨x,cp,rfl,hcp,hmx,hin⟩:=hl.ne;obtain⟨g,rfl,hgN,hat⟩:=hin (by intro e;rw[e] at hlt;simp at hlt);obtain⟨u,hu,hnp⟩:=hat k n hk;have HNP:=za hnp;have HE:=za (hE.take hlt);obtain⟨nb,vs,qv,xs',rfl,hnt⟩:=hnp;obtain⟨p0,pf,pz⟩:=zu hg;have i1:(k:Int)<=(cp:Int):=by omega
 have i0:(0:Int)<=(k:Int):=by omega
 have i2:(k:Int)<(ns.length:Int):=by omega
 have hgw:g<w.heap.size:=by omega
 clear hE hin hat hnt hl hg hk;go_enter func55,ntmps55;go_wp2_with fail;refine zn (λW=>W=w.alloc (.cells #[.slice none 0 0,.pointer none] 114 (0,0))/\True) ⟨rfl,trivial⟩ ?_;rintro W ⟨hW,_⟩;have HW:=za (hW▸zq w (.cells #[.slice none 0 0,.pointer none] 114 (0,0)):xB w W);obtain⟨r0,r1,rf,rz⟩:=zp (hW▸zc w (.cells #[.slice none 0 0,.pointer none] 114 (0,0)):W.heap[w.heap.size]?=_);have s0:=zd HW.o p0 pz;have s1:=zd HW.o hu hgw;have hn1:¬w.heap.size=gb:=by omega
 have hn2:¬w.heap.size=g:=by omega
 have hn3:¬gb=w.heap.size:=by omega
 have hn4:¬g=w.heap.size:=by omega
 clear hW p0 hu;go_region_held3 (λw'=>w'.cell? (xD gb 0)=some (xS g ns.length cp)/\w'.cell? (xD g k)=some (xP nb)) (go_keep) (fail);go_wp2_with fail;have hBn:=zo (zC (i:=1) (zC (b:=w.heap.size) (i:=0) HW.o (zMK _) (xS g k cp)) (b:=w.heap.size) (zMK _) (xP nb));refine bodyPost_ret (v:=.agg #[xS g k cp,xP nb]) (by simp[results,results55,go_sem,r0,r1]) rfl ⟨_,_,_,rfl,?_,hBn⟩;exact⟨HE.o.old (zm hBn hN),HNP.o.old (zm hBn hN)⟩
end
section
open Go.RowKit
attribute [local go_sem ↓] Go.wp_at_zero Go.wp_at_succ
theorem zkL (S:Xs)(kd lb bb sb:Nat)(nmv askv:Xv)(N:Nat)(c:Sc)(h6:c.er.length<=6)(ev nv:Xv)(b1 b2:Nat)(l1:N<=lb)(l2:N<=bb) :
 zjB N (RT lb bb) 123 #[xP b1,xP b2] (λ_=>True) c.nd (λst q t=>(zaL c q t).foldl rep st) (zas S kd lb bb sb nmv askv N c ev nv b1 b2) where
 enters:=zqp
 hT:=λk e=>by rcases e with e|e;exact e▸l1;exact e▸l2
 keep:=λs w w' h hB=>h.keep hB
 sub:=λt u h hu=>trivial
 root:=λ_ _=>trivial
 call:=by
  intro q lv rv t v st w hq hE hT hW hN hI hO;have HI:=za hI;have HTT:=za hT;have HEq:=za hE;have HWi:=za hW;obtain⟨xe,cpe,nb,rfl,rfl,hnb⟩:=hI.sc.shape;obtain⟨b,args,vs,rfl,hb,hblk,_⟩:=hT.ptr;have hbz:=ze hblk;have HBk:=za hblk;obtain⟨xl,cl,rfl⟩:=zB hE.own;obtain⟨rb,_,_,rfl,_⟩:=hE.tt.ptr;have z1:=ze hI.x1;have z2:=ze hI.x2;have zl:=ze hI.rp.l;have zb:=ze hI.rp.b;have d1:=hI.d1;have d2:=hI.d2;have d3:=hI.d3;have d4:=hI.d4;have hblb:¬b=lb:=by omega
  have hbbb:¬b=bb:=by omega
  have HNv:=za (λW (hB:xB w W)=>zf2 W (hT.old (zm hB hN)));have HUs:=za (λW (hB:Old N w W)=>znj W (HEq.o.old hB) (HTT.o.old hB) HWi.o);have HFi:=za (λW (hB:Old N w W) (hz:N<=W.heap.size) (hs:ScV W N c (xE xe c cpe) (xP nb))=>znK (zda q t) W hs hz h6 (HTT.o.old hB));have hne1:¬w.heap.size=lb:=by omega
  have hne2:¬w.heap.size=bb:=by omega
  show Calls prog _ #[.agg #[.slice xl q.ns.length cl,xI q.a,xP rb],xP b,xP b1,xP b2] w _;have hstart:zas S kd lb bb sb nmv askv N c (xE xe c cpe) (xP nb) b1 b2 st (w.alloc (.cells #[.slice xl q.ns.length cl,xI q.a,xP rb] 184)):=HI.o.keep (zq w _);have Hst:=za hstart;by_cases hk4:t.k=4
  . have hsm:zaJ t.k=false:=by rw[hk4];rfl
    rw[hk4] at HBk;cases hfit:c.fits t (zda q t) with
    | true =>
      have HT:Hid ((zaL c q t).foldl rep st=st):=(by unfold Hid zaL;rw[hsm,hfit];simp);go_enter func123,ntmps123;go_upto_region 1 with fail;refine zn (λW=>zas S kd lb bb sb nmv askv N c (xE xe c cpe) (xP nb) b1 b2 st W/\xB w W/\xH W w.heap.size #[.slice xl q.ns.length cl,xI q.a,xP rb] 184) ⟨Hst.o,zq w _,zc w _⟩ ?_;rintro W ⟨hIW,hBW,hQW⟩;obtain⟨s0,s1,sf,sz⟩:=zp hIW.x1;obtain⟨p0,pf,pz⟩:=zu hIW.x2;obtain⟨m0,m1,m2,m3,m4,m5,mf,mz⟩:=zt ((hBW.block b hbz).trans HBk.o);have HIW:=za hIW;have HBW:=za hBW;have HQW:=za hQW;have hqz:=ze hQW;have HQ:=za (λqn=>zaX (HNv.o (W.drewN qn) (zI hBW qn)));rw[hsm] at HQ;go_quiet ((go_at_call 124;exact HQ.o _));go_upto_region 3 with fail;refine zn (λW2=>zas S kd lb bb sb nmv askv N c (xE xe c cpe) (xP nb) b1 b2 st W2/\Fr (RT lb bb) w W2/\xH W2 w.heap.size #[.slice xl q.ns.length cl,xI q.a,xP rb] 184) ⟨HIW.o.keep (zI (Below.refl _ _) _),zy (zI HBW.o _),HQW.o⟩ ?_;rintro W2 ⟨hI2,hF2,hQ2⟩;obtain⟨s0,s1,sf,sz⟩:=zp hI2.x1;obtain⟨p0,pf,pz⟩:=zu hI2.x2;obtain⟨r0,r1,r2,rf,rz⟩:=zL hQ2;have hO2:=HI.o.old hF2;obtain⟨m0,m1,m2,m3,m4,m5,mf,mz⟩:=zt ((hO2 b hb).trans HBk.o);have HI2:=za hI2;have HF2:=za hF2;have HU:=za (HUs.o W2.drew hO2);have hNW2:=hI2.hN;have m0':xC W2 b 0 (xI 4):=m0
      go_region_held3 (λw'=>w'.cell? (xD b1 0)=some (xE xe c cpe)/\w'.cell? (xD b1 1)=some (xP nb)/\w'.cell? (xD w.heap.size 0)=some (.slice xl q.ns.length cl)/\w'.cell? (xD w.heap.size 1)=some (xI q.a)/\w'.cell? (xD w.heap.size 2)=some (xP rb)/\w'.cell? (xD b 0)=some (xI 4))
       (first|(with_reducible (refine⟨?_,?_,?_,?_,?_,?_⟩ <;> repeat (first|assumption|refine zg ?_|refine zj _ ?_|refine zk (by omega) ?_|refine zd HB2.o ?_ (by first|omega|(rw[zsb];omega))|refine zd HB1.o ?_ (by first|omega|(rw[zsb];omega)))))|go_keep)
       (first
         | (go_at_call 125;refine HD2.o.mono ?_;rintro e w5 ⟨rfl,hB2⟩;have HB2:=za hB2)
         | (go_at_call 126;refine HU.o.mono ?_;rintro e w4 ⟨rfl,hB1⟩;have HB1:=za (zw hB1);(have hzw1:W2.heap.size<=w4.heap.size:=hB1.size);have HD2:=za (HFi.o w4 (hO2.trans (zm HB1.o hNW2)) (by omega) (HI2.o.keep HB1.o).sc);rw[hfit] at HD2))
      go_wp2_with fail;go_ret;refine⟨rfl,?_,HF2.o.trans (zy (HB1.o.trans (HB2.o.mono (by have:=HB1.o.size;omega))))⟩;rw[HT.o];exact HI2.o.keep (HB1.o.trans (HB2.o.mono (by have:=HB1.o.size;omega)))
    | false =>
      have HT:Hid ((zaL c q t).foldl rep st=rep st t.nm):=(by unfold Hid zaL;rw[hsm,hfit,hk4];rfl);go_enter func123,ntmps123;go_upto_region 1 with fail;refine zn (λW=>zas S kd lb bb sb nmv askv N c (xE xe c cpe) (xP nb) b1 b2 st W/\xB w W/\xH W w.heap.size #[.slice xl q.ns.length cl,xI q.a,xP rb] 184) ⟨Hst.o,zq w _,zc w _⟩ ?_;rintro W ⟨hIW,hBW,hQW⟩;obtain⟨s0,s1,sf,sz⟩:=zp hIW.x1;obtain⟨p0,pf,pz⟩:=zu hIW.x2;obtain⟨m0,m1,m2,m3,m4,m5,mf,mz⟩:=zt ((hBW.block b hbz).trans HBk.o);have HIW:=za hIW;have HBW:=za hBW;have HQW:=za hQW;have hqz:=ze hQW;have HQ:=za (λqn=>zaX (HNv.o (W.drewN qn) (zI hBW qn)));rw[hsm] at HQ;go_quiet ((go_at_call 124;exact HQ.o _));go_upto_region 3 with fail;refine zn (λW2=>zas S kd lb bb sb nmv askv N c (xE xe c cpe) (xP nb) b1 b2 st W2/\Fr (RT lb bb) w W2/\xH W2 w.heap.size #[.slice xl q.ns.length cl,xI q.a,xP rb] 184) ⟨HIW.o.keep (zI (Below.refl _ _) _),zy (zI HBW.o _),HQW.o⟩ ?_;rintro W2 ⟨hI2,hF2,hQ2⟩;obtain⟨s0,s1,sf,sz⟩:=zp hI2.x1;obtain⟨p0,pf,pz⟩:=zu hI2.x2;obtain⟨r0,r1,r2,rf,rz⟩:=zL hQ2;have hO2:=HI.o.old hF2;obtain⟨m0,m1,m2,m3,m4,m5,mf,mz⟩:=zt ((hO2 b hb).trans HBk.o);have HI2:=za hI2;have HF2:=za hF2;have HU:=za (HUs.o W2.drew hO2);have hNW2:=hI2.hN;have m0':xC W2 b 0 (xI 4):=m0
      go_region_held3 (λw'=>w'.cell? (xD b1 0)=some (xE xe c cpe)/\w'.cell? (xD b1 1)=some (xP nb)/\w'.cell? (xD w.heap.size 0)=some (.slice xl q.ns.length cl)/\w'.cell? (xD w.heap.size 1)=some (xI q.a)/\w'.cell? (xD w.heap.size 2)=some (xP rb)/\w'.cell? (xD b 0)=some (xI 4))
       (first|(with_reducible (refine⟨?_,?_,?_,?_,?_,?_⟩ <;> repeat (first|assumption|refine zg ?_|refine zj _ ?_|refine zk (by omega) ?_|refine zd HB2.o ?_ (by first|omega|(rw[zsb];omega))|refine zd HB1.o ?_ (by first|omega|(rw[zsb];omega)))))|go_keep)
       (first
         | (go_at_call 125;refine HD2.o.mono ?_;rintro e w5 ⟨rfl,hB2⟩;have HB2:=za hB2)
         | (go_at_call 126;refine HU.o.mono ?_;rintro e w4 ⟨rfl,hB1⟩;have HB1:=za (zw hB1);(have hzw1:W2.heap.size<=w4.heap.size:=hB1.size);have HD2:=za (HFi.o w4 (hO2.trans (zm HB1.o hNW2)) (by omega) (HI2.o.keep HB1.o).sc);rw[hfit] at HD2))
      go_upto_region 4 with fail;have HB3:=za (HB1.o.trans (HB2.o.mono (by have:=HB1.o.size;omega)));have g1:=zd HB3.o p0 pz;have g2:=zd HB3.o m3 mz;have HTell:=za (zaa S kd lb bb sb nmv askv st t.nm w5.drew ((HI2.o.keep HB3.o).rp.keep (zo (Below.refl _ _))));unfold zam at g1
      go_region_held3 (λw'=>w'.cell? (xD b2 0)=some (.func (.func 140) #[] #[xP lb,xP bb,xP sb])/\w'.cell? (xD b 3)=some (xI t.nm))
       (first|(with_reducible (refine⟨?_,?_⟩ <;> repeat (first|assumption|refine zg ?_|refine zS HFt.o ?_ (by omega) (by omega))))|go_keep)
       (first
         | (go_at_call 140;refine (HTell.o).mono ?_;rintro e w6 ⟨rfl,hRt,hFt'⟩;have HRt:=za hRt;have HFt:=za hFt'.undrew))
      go_wp2_with fail;go_ret;refine⟨rfl,?_,(HF2.o.trans (zy HB3.o)).trans HFt.o⟩;rw[HT.o];exact (HI2.o.keep HB3.o).told HRt.o HFt.o
  have hk4':((t.k:Int)==4)=false:=by simp;omega
  have hk4b:(t.k==4)=false:=by simp[hk4]
  cases hsm:zaJ t.k with
  | false => have HT:Hid ((zaL c q t).foldl rep st=st):=(by unfold Hid zaL;rw[hsm,hk4b];rfl);go_enter func123,ntmps123;go_upto_region 1 with fail;refine zn (λW=>zas S kd lb bb sb nmv askv N c (xE xe c cpe) (xP nb) b1 b2 st W/\xB w W/\xH W w.heap.size #[.slice xl q.ns.length cl,xI q.a,xP rb] 184) ⟨Hst.o,zq w _,zc w _⟩ ?_;rintro W ⟨hIW,hBW,hQW⟩;obtain⟨s0,s1,sf,sz⟩:=zp hIW.x1;obtain⟨p0,pf,pz⟩:=zu hIW.x2;obtain⟨m0,m1,m2,m3,m4,m5,mf,mz⟩:=zt ((hBW.block b hbz).trans HBk.o);have HIW:=za hIW;have HBW:=za hBW;have HQW:=za hQW;have hqz:=ze hQW;have HQ:=za (λqn=>zaX (HNv.o (W.drewN qn) (zI hBW qn)));rw[hsm] at HQ;go_quiet ((go_at_call 124;exact HQ.o _));go_upto_region 3 with fail;refine zn (λW2=>zas S kd lb bb sb nmv askv N c (xE xe c cpe) (xP nb) b1 b2 st W2/\Fr (RT lb bb) w W2/\xH W2 w.heap.size #[.slice xl q.ns.length cl,xI q.a,xP rb] 184) ⟨HIW.o.keep (zI (Below.refl _ _) _),zy (zI HBW.o _),HQW.o⟩ ?_;rintro W2 ⟨hI2,hF2,hQ2⟩;obtain⟨s0,s1,sf,sz⟩:=zp hI2.x1;obtain⟨p0,pf,pz⟩:=zu hI2.x2;obtain⟨r0,r1,r2,rf,rz⟩:=zL hQ2;have hO2:=HI.o.old hF2;obtain⟨m0,m1,m2,m3,m4,m5,mf,mz⟩:=zt ((hO2 b hb).trans HBk.o);have HI2:=za hI2;have HF2:=za hF2;go_quiet (fail);go_wp2_with fail;go_ret;refine⟨rfl,?_,HF2.o.trans (zy (zI (Below.refl _ _) _))⟩;rw[HT.o];exact HI2.o.keep (zI (Below.refl _ _) _)
  | true =>
    cases hhas:c.has t.s with
    | true =>
      have HT:Hid ((zaL c q t).foldl rep st=st):=(by unfold Hid zaL;rw[hsm,hk4b,hhas];rfl);go_enter func123,ntmps123;go_upto_region 1 with fail;refine zn (λW=>zas S kd lb bb sb nmv askv N c (xE xe c cpe) (xP nb) b1 b2 st W/\xB w W/\xH W w.heap.size #[.slice xl q.ns.length cl,xI q.a,xP rb] 184) ⟨Hst.o,zq w _,zc w _⟩ ?_;rintro W ⟨hIW,hBW,hQW⟩;obtain⟨s0,s1,sf,sz⟩:=zp hIW.x1;obtain⟨p0,pf,pz⟩:=zu hIW.x2;obtain⟨m0,m1,m2,m3,m4,m5,mf,mz⟩:=zt ((hBW.block b hbz).trans HBk.o);have HIW:=za hIW;have HBW:=za hBW;have HQW:=za hQW;have hqz:=ze hQW;have HQ:=za (HNv.o W.drew (zo hBW));rw[hsm] at HQ;have HD:=za (zgt t.s (t.nm:Int) W.drew (hIW.sc.old (λ_ _=>rfl)) (by show N<=W.heap.size;exact hIW.hN));have hhas':(c.nd.find t.s).isSome=true:=hhas;rw[hhas'] at HD
      go_region_held3 (λw'=>w'.cell? (xD b1 0)=some (xE xe c cpe)/\w'.cell? (xD b1 1)=some (xP nb)/\w'.cell? (xD b 2)=some (.string t.s)/\w'.cell? (xD b 3)=some (xI t.nm))
       (first|(with_reducible (refine⟨?_,?_,?_,?_⟩ <;> repeat (first|assumption|refine zg ?_|refine zj _ ?_|refine zk (by omega) ?_|refine zd HB1.o ?_ (by first|omega|(rw[zsb];omega)))))|go_keep)
       (first
         | (go_at_call 121;refine HD.o.mono ?_;rintro e w1 ⟨rfl,hB1⟩;have HB1:=za (zw hB1))
         | (go_at_call 124;refine HQ.o.mono ?_;rintro e w1 ⟨rfl,rfl⟩))
      go_upto_region 3 with fail;refine zn (λW2=>zas S kd lb bb sb nmv askv N c (xE xe c cpe) (xP nb) b1 b2 st W2/\Fr (RT lb bb) w W2/\xH W2 w.heap.size #[.slice xl q.ns.length cl,xI q.a,xP rb] 184) ⟨HIW.o.keep HB1.o,zy (HBW.o.trans (HB1.o.mono HBW.o.size)),(HB1.o.block _ hqz).trans HQW.o⟩ ?_;rintro W2 ⟨hI2,hF2,hQ2⟩;obtain⟨s0,s1,sf,sz⟩:=zp hI2.x1;obtain⟨p0,pf,pz⟩:=zu hI2.x2;obtain⟨r0,r1,r2,rf,rz⟩:=zL hQ2;have hO2:=HI.o.old hF2;obtain⟨m0,m1,m2,m3,m4,m5,mf,mz⟩:=zt ((hO2 b hb).trans HBk.o);have HI2:=za hI2;have HF2:=za hF2;go_quiet (fail);go_wp2_with fail;go_ret;refine⟨rfl,?_,HF2.o.trans (zy (zI (Below.refl _ _) _))⟩;rw[HT.o];exact HI2.o.keep (zI (Below.refl _ _) _)
    | false =>
      have HT:Hid ((zaL c q t).foldl rep st=rep st t.nm):=(by unfold Hid zaL;rw[hsm,hk4b,hhas];rfl);go_enter func123,ntmps123;go_upto_region 1 with fail;refine zn (λW=>zas S kd lb bb sb nmv askv N c (xE xe c cpe) (xP nb) b1 b2 st W/\xB w W/\xH W w.heap.size #[.slice xl q.ns.length cl,xI q.a,xP rb] 184) ⟨Hst.o,zq w _,zc w _⟩ ?_;rintro W ⟨hIW,hBW,hQW⟩;obtain⟨s0,s1,sf,sz⟩:=zp hIW.x1;obtain⟨p0,pf,pz⟩:=zu hIW.x2;obtain⟨m0,m1,m2,m3,m4,m5,mf,mz⟩:=zt ((hBW.block b hbz).trans HBk.o);have HIW:=za hIW;have HBW:=za hBW;have HQW:=za hQW;have hqz:=ze hQW;have HQ:=za (HNv.o W.drew (zo hBW));rw[hsm] at HQ;have HD:=za (zgt t.s (t.nm:Int) W.drew (hIW.sc.old (λ_ _=>rfl)) (by show N<=W.heap.size;exact hIW.hN));have hhas':(c.nd.find t.s).isSome=false:=hhas;rw[hhas'] at HD
      go_region_held3 (λw'=>w'.cell? (xD b1 0)=some (xE xe c cpe)/\w'.cell? (xD b1 1)=some (xP nb)/\w'.cell? (xD b 2)=some (.string t.s)/\w'.cell? (xD b 3)=some (xI t.nm))
       (first|(with_reducible (refine⟨?_,?_,?_,?_⟩ <;> repeat (first|assumption|refine zg ?_|refine zj _ ?_|refine zk (by omega) ?_|refine zd HB1.o ?_ (by first|omega|(rw[zsb];omega)))))|go_keep)
       (first
         | (go_at_call 121;refine HD.o.mono ?_;rintro e w1 ⟨rfl,hB1⟩;have HB1:=za (zw hB1))
         | (go_at_call 124;refine HQ.o.mono ?_;rintro e w1 ⟨rfl,rfl⟩))
      go_upto_region 2 with fail;have g1:=zd HB1.o p0 pz;have g2:=zd HB1.o m3 mz;have HTell:=za (zaa S kd lb bb sb nmv askv st t.nm w1.drew ((HIW.o.keep HB1.o).rp.keep (zo (Below.refl _ _))));unfold zam at g1
      go_region_held3 (λw'=>w'.cell? (xD b2 0)=some (.func (.func 140) #[] #[xP lb,xP bb,xP sb])/\w'.cell? (xD b 3)=some (xI t.nm))
       (first|(with_reducible (refine⟨?_,?_⟩ <;> repeat (first|assumption|refine zg ?_|refine zS HFt.o ?_ (by omega) (by omega))))|go_keep)
       (first
         | (go_at_call 140;refine (HTell.o).mono ?_;rintro e w2 ⟨rfl,hRt,hFt'⟩;have HRt:=za hRt;have HFt:=za hFt'.undrew))
      go_upto_region 3 with fail;refine zn (λW2=>zas S kd lb bb sb nmv askv N c (xE xe c cpe) (xP nb) b1 b2 (rep st t.nm) W2/\Fr (RT lb bb) w W2/\xH W2 w.heap.size #[.slice xl q.ns.length cl,xI q.a,xP rb] 184) ⟨(HIW.o.keep HB1.o).told HRt.o HFt.o,(zy (HBW.o.trans (HB1.o.mono HBW.o.size))).trans HFt.o,(HFt.o.block _ (by have:=HB1.o.size;omega) (λe=>by rcases e with e|e;exact hne1 e;exact hne2 e)).trans ((HB1.o.block _ hqz).trans HQW.o)⟩ ?_;rintro W2 ⟨hI2,hF2,hQ2⟩;obtain⟨s0,s1,sf,sz⟩:=zp hI2.x1;obtain⟨p0,pf,pz⟩:=zu hI2.x2;obtain⟨r0,r1,r2,rf,rz⟩:=zL hQ2;have hO2:=HI.o.old hF2;obtain⟨m0,m1,m2,m3,m4,m5,mf,mz⟩:=zt ((hO2 b hb).trans HBk.o);have HI2:=za hI2;have HF2:=za hF2;go_quiet (fail);go_wp2_with fail;go_ret;refine⟨rfl,?_,HF2.o.trans (zy (zI (Below.refl _ _) _))⟩;rw[HT.o];exact HI2.o.keep (zI (Below.refl _ _) _)
end
end Go.Proofs.YtbicmofihhjgbaaGreatDoor
