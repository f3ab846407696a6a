/- Part 15 of the proof: PrE PrF PrG CodA. -/
import Derived.Test.YtmfkofhgdjechaaGreatDoorK13
set_option maxRecDepth 100000
set_option maxHeartbeats 8000000
namespace Go.Proofs.YtmfkofhgdjechaaGreatDoor
open Go.Proofs.Tryz
open Go.RowKit
section
variable {l:List Vr} {n:NdV} {iv ov:Value} {w wr:World}
structure VaI (w wr:World) (n:NdV) (iv ov:Value) (l:List Vr):Prop where
 nd:wr.heap[w.heap.size]?=some n.obj
 oi:wr.ownsRow (w.heap.size+1) 9 1 iv (zyA l).length ((zyA l).map .string)
 oo:wr.ownsRow (w.heap.size+1) 9 1 ov (zyu l).length ((zyu l).map .string)
 ne:∀j,iv.ownBlock=some j->¬ov.ownBlock=some j
 bel:xB w wr
 siz:w.heap.size+1<=wr.heap.size
theorem VaI.keep {w2:World}(h:VaI w wr n iv ov l)(hB:xB wr w2):VaI w w2 n iv ov l :=
 ⟨(hB.block _ (by have:=h.siz;omega)).trans h.nd,zi h.oi (λj _ hj _=>hB.block j hj),zi h.oo (λj _ hj _=>hB.block j hj),h.ne,h.bel.trans (hB.mono (by have:=h.siz;omega)),Nat.le_trans h.siz hB.size⟩
theorem VaI.frame {w9:World}{v:Value}{d:ByteArray}(h:VaI w wr n iv ov l)(hv:∀j,v.ownBlock=some j->w.heap.size+1<=j)(f:Fr (λj=>v.ownBlock=some j) (wr.alloc (.cells #[.string d] 9)) w9):w9.heap[w.heap.size]?=some n.obj/\xB w w9/\w.heap.size+1<=w9.heap.size:=by have hs:=h.siz;have hz:=f.size;rw[zsb] at hz;have hb:∀j,j<w.heap.size+1->w9.heap[j]?=wr.heap[j]?:=λj hj=>(f.block j (by rw[zsb];omega) (λe=>by have:=hv j e;omega)).trans (Below.heap_alloc _ _ _ (by omega));exact⟨(hb _ (by omega)).trans h.nd,h.bel.trans ⟨f.os,f.tape,f.output,by omega,λj hj=>hb j (by omega)⟩,by omega⟩
theorem zAE (a:ByteArray):a++⟨#[]⟩=a:=by apply ByteArray.ext;simp[ByteArray.data_append]
theorem zAa (l:List Vr):(zyA l).length<=l.length:=by unfold zyA;rw[List.length_map];exact List.length_filter_le _ _
theorem zzU (l:List Vr):(zyu l).length<=l.length:=by unfold zyu;rw[List.length_map];exact List.length_filter_le _ _
theorem zGc (N:Nat)(n:NdV)(vars:List Vr)(L:List Ex)(eqs:List Eqn)(bts:List ByteArray)(hl:bts.length=eqs.length)(hbt:∀(i:Nat) (q:Eqn) (b:ByteArray),eqs[i]?=some q->bts[i]?=some b->TxR L q.ex b/\b.size<=1000000000000/\(zyw q.ns).size<=1000000000000)(w:World)(hV:Vrs w N (.slice n.va n.vn n.vc) vars)(hX:Txs w N (.slice n.xa n.xn n.xc) L)(hQ:Qns w N (.slice n.qa n.qn n.qc) eqs)(hN:N<=w.heap.size)(hnm:n.nm.size<=1200)(hes:eqs.length<=2000) :
 xK 88 #[n.agg] w (λe w'=>e=.returned (.string (zyO n.nm vars (eqs.zip bts)))/\xB w w'):=by
 obtain⟨nm,na,va,vn,vc,xa,xn,xc,qa,qn,qc⟩:=n;simp only at hV hX hQ hnm ⊢;have HV:Hid (∀W,xB w W->Vrs W N (.slice va vn vc) vars):=λW hB=>hV.bel (hB.mono hN);have HX:Hid (∀W,xB w W->Txs W N (.slice xa xn xc) L):=λW hB=>hX.bel (hB.mono hN);have HQ:Hid (∀W,xB w W->Qns W N (.slice qa qn qc) eqs):=λW hB=>hQ.bel (hB.mono hN);obtain⟨_,_,e1,hv16,_⟩:=hV;cases e1;obtain⟨_,_,e2,_,_⟩:=hQ;cases e2;have HBT:=za hbt;have HBL:=za hl;clear hbt hl hX;unfold NdV.agg;simp only;go_enter func88,ntmps88;go_wp2_with fail;go_loopg [3,4,5,6,7] vars.length (λm iv ov lo i _ wr=>∃(k:Nat) (ia oa:Option Addr) (ic oc:Nat),k+m=vars.length/\iv=.slice ia (zyA (vars.take k)).length ic/\ov=.slice oa (zyu (vars.take k)).length oc/\lo=.string (zzl (vars.take k))/\i=xI k/\Hid (VaI w wr ⟨nm,na,va,vars.length,vc,xa,xn,xc,qa,eqs.length,qc⟩ iv ov (vars.take k)));case atStart => refine⟨0,none,none,0,0,by omega,rfl,rfl,rfl,rfl,⟨zc w _,World.ownsRow_nil _ _ _ _,World.ownsRow_nil _ _ _ _,(λj h=>by cases h),(Below.refl _ w).alloc (Nat.le_refl _) _,by simp⟩⟩
 case round =>
  obtain⟨k,ia,oa,ic,oc,hkm,rfl,rfl,rfl,rfl,HI⟩:=hrel;obtain⟨n0,n1,n2,n3,n4,nf,nz⟩:=zcf HI.o.nd;have hsz:=HI.o.siz;by_cases hk:k<vars.length
  . obtain⟨v,hv⟩:∃v,vars[k]?=some v:=⟨vars[k],zsc hk⟩;obtain⟨a9,c9,e9,_,h9⟩:=HV.o wr HI.o.bel;cases e9;obtain⟨hvs,g,e8,hg,m0,m1,m2,m3,m4,m5,m6,m7,m8,m9⟩:=h9 k v hv;cases e8;have hgw:g<wr.heap.size:=by omega
    have hki:(k:Int)<vars.length:=(by omega);have hn1:=zAa (vars.take k);have hn2:=zzU (vars.take k);have hn3:(vars.take k).length<=16:=(by rw[List.length_take];omega);have hn4:=zzT (l:=vars.take k) (λx hx=>by obtain⟨j,hj⟩:=List.mem_iff_getElem?.1 hx;exact (h9 j x (by rw[List.getElem?_take] at hj;split at hj;exact hj;cases hj)).1);have hds:=zy1 hvs;have HD:=za (λW=>zCX v hvs W);unfold zDO at HD;have HI1:=za (zD1 (vars.take k) v);have HO1:=za (zDD (vars.take k) v);have HL1:=za (zEJ (vars.take k) v);rw[<- zzk hv] at HI1 HO1 HL1;obtain⟨m,rfl⟩:∃m,gk=m+1:=⟨gk-1,by omega⟩;clear h9;generalize zyJ v=d at *;cases hin:v.inn with
    | true =>
      rw[hin] at HI1 HO1 HL1 HD m3;clear hin;go_wp2_with (first|(at_builtin;revert HK2;intro HK2;refine zA8 _ rfl (.tmp 37) (.tmp 39) rfl (w.heap.size+1) (.slice ia (zyA (vars.take k)).length ic) _ _ d rfl HK2.o.oi rfl (by omega) (by omega) ?_;intro g9 cap9 w9 h9 f9 n9;have HF9:=za f9;have HO9:=za h9;have HN9:=za n9;clear h9 f9 n9)|(go_at_call 149;refine (HD.o _).mono ?_;rintro e w2 ⟨rfl,hB2⟩;have HB2:=za hB2;have hz2:=hB2.size;have HK2:=za (HI.o.keep hB2);have p3:=zye hB2 hgw m3;have p4:=zye hB2 hgw m4;obtain⟨k0,k1,k2,k3,k4,kf,kz⟩:=zcf (HI.o.keep hB2).nd;clear hB2));go_roundg m;case measure=>omega
      case rel =>
       have hlt:=λj e=>(HK2.o.oi.lt j e).1;obtain⟨z1,z2,z3⟩:=HK2.o.frame hlt HF9.o;have hI1:=HI1.o;have hO1:=HO1.o;have hL1:=HL1.o;rw[if_pos (by simp)] at hI1;rw[if_neg (by simp)] at hO1;rw[if_pos (by simp)] at hL1;refine⟨k+1,some (xD g9 0),oa,cap9,oc,by omega,by rw[hI1];simp,by rw[hO1],by rw[hL1],by simp,⟨z1,?_,?_,?_,z2,z3⟩⟩
       . rw[hI1,List.length_append,List.map_append];exact HO9.o
       . rw[hO1];exact zi HK2.o.oo (λj _ hj e=>(HF9.o.block j (by rw[zsb];omega) (λe2=>HK2.o.ne j e2 e)).trans (Below.heap_alloc _ _ _ hj))
       . intro j hj e;rcases HN9.o j (by cases hj;rfl) with h|h
         . exact HK2.o.ne j h e
         . have:=(HK2.o.oo.lt j e).2;omega
    | false =>
      cases hout:v.out with
      | true =>
        rw[hin,hout] at HO1 HL1 HD;rw[hin] at HI1 m3;rw[hout] at m4;clear hin hout;go_wp2_with (first|(at_builtin;revert HK2;intro HK2;refine zA8 _ rfl (.tmp 48) (.tmp 50) rfl (w.heap.size+1) (.slice oa (zyu (vars.take k)).length oc) _ _ d rfl HK2.o.oo rfl (by omega) (by omega) ?_;intro g9 cap9 w9 h9 f9 n9;have HF9:=za f9;have HO9:=za h9;have HN9:=za n9;clear h9 f9 n9)|(go_at_call 149;refine (HD.o _).mono ?_;rintro e w2 ⟨rfl,hB2⟩;have HB2:=za hB2;have hz2:=hB2.size;have HK2:=za (HI.o.keep hB2);have p3:=zye hB2 hgw m3;have p4:=zye hB2 hgw m4;obtain⟨k0,k1,k2,k3,k4,kf,kz⟩:=zcf (HI.o.keep hB2).nd;clear hB2));go_roundg m;case measure=>omega
        case rel =>
         have hlt:=λj e=>(HK2.o.oo.lt j e).1;obtain⟨z1,z2,z3⟩:=HK2.o.frame hlt HF9.o;have hI1:=HI1.o;have hO1:=HO1.o;have hL1:=HL1.o;rw[if_neg (by simp)] at hI1;rw[if_pos (by simp)] at hO1;rw[if_pos (by simp)] at hL1;refine⟨k+1,ia,some (xD g9 0),ic,cap9,by omega,by rw[hI1],by rw[hO1];simp,by rw[hL1],by simp,⟨z1,?_,?_,?_,z2,z3⟩⟩
         . rw[hI1];exact zi HK2.o.oi (λj _ hj e=>(HF9.o.block j (by rw[zsb];omega) (λe2=>HK2.o.ne j e e2)).trans (Below.heap_alloc _ _ _ hj))
         . rw[hO1,List.length_append,List.map_append];exact HO9.o
         . intro j hj e;rcases HN9.o j (by cases e;rfl) with h|h
           . exact HK2.o.ne j hj h
           . have:=(HK2.o.oi.lt j hj).2;omega
      | false =>
        rw[hin,hout] at HO1 HL1 HD;rw[hin] at HI1 m3;rw[hout] at m4;clear hin hout;go_wp2_with (go_at_call 149;refine (HD.o _).mono ?_;rintro e w2 ⟨rfl,hB2⟩;have HB2:=za hB2;have hz2:=hB2.size;have HK2:=za (HI.o.keep hB2);have p3:=zye hB2 hgw m3;have p4:=zye hB2 hgw m4;obtain⟨k0,k1,k2,k3,k4,kf,kz⟩:=zcf (HI.o.keep hB2).nd;clear hB2);go_roundg m;case measure=>omega
        case rel =>
         have hI1:=HI1.o;have hO1:=HO1.o;have hL1:=HL1.o;rw[if_neg (by simp)] at hI1 hO1 hL1;refine⟨k+1,ia,oa,ic,oc,by omega,by rw[hI1],by rw[hO1],by rw[hL1],by simp,⟨HK2.o.nd,?_,?_,HK2.o.ne,HK2.o.bel,HK2.o.siz⟩⟩
         . rw[hI1];exact HK2.o.oi
         . rw[hO1];exact HK2.o.oo
  . have hkv:k=vars.length:=by omega
    subst hkv;rw[List.take_length] at HI ⊢;have hke:¬((vars.length:Int)<vars.length):=(by omega);have hvz:∀v∈vars,VrS v:=λv hv=>by obtain⟨j,hj⟩:=List.mem_iff_getElem?.1 hv;obtain⟨_,_,_,_,h⟩:=HV.o w (Below.refl _ _);exact (h j v hj).1
    have hi1:=zAa vars;have ho1:=zzU vars;have hs1:∀b∈zyA vars,b.size<=1000000000000:=λb hb=>by unfold zyA at hb;obtain⟨v,hv,rfl⟩:=List.mem_map.1 hb;have:=zy1 (hvz v (List.mem_filter.1 hv).1);omega
    have hs2:∀b∈zyu vars,b.size<=1000000000000:=λb hb=>by unfold zyu at hb;obtain⟨v,hv,rfl⟩:=List.mem_map.1 hb;have:=zy1 (hvz v (List.mem_filter.1 hv).1);omega
    have hj1:=zy3 ⟨#[32,44,32]⟩ (show 3<=10 by decide) (zyA vars) hs1;have hj2:=zy3 ⟨#[32,44,32]⟩ (show 3<=10 by decide) (zyu vars) hs2;have hlz:=zzT hvz;have HJ1:Hid (∀nq,xK 150 #[.slice ia (zyA vars).length ic,.string ⟨#[32,44,32]⟩] (wr.drewN nq) (λe w'=>e=.returned (.string (zyf ⟨#[32,44,32]⟩ (zyA vars)))/\wr.drewN nq=w')):=λnq=>zzA _ _ ⟨#[32,44,32]⟩ (show 3<=10 by decide) (wr.drewN nq) (zA7 HI.o.oi (by omega) hs1);have HJ2:Hid (∀nq,xK 150 #[.slice oa (zyu vars).length oc,.string ⟨#[32,44,32]⟩] (wr.drewN nq) (λe w'=>e=.returned (.string (zyf ⟨#[32,44,32]⟩ (zyu vars)))/\wr.drewN nq=w')):=λnq=>zzA _ _ ⟨#[32,44,32]⟩ (show 3<=10 by decide) (wr.drewN nq) (zA7 HI.o.oo (by omega) hs2);have HH:Hid (hdB nm (zyA vars) (zyu vars)=⟨#[110,111,100,101,32]⟩++nm++⟨#[32,40,32]⟩++zyf ⟨#[32,44,32]⟩ (zyA vars)++⟨#[32,41,32,45,62,32,40,32]⟩++zyf ⟨#[32,44,32]⟩ (zyu vars)++⟨#[32,41,32]⟩):=rfl;have HLO:Hid (zyO nm vars (eqs.zip bts)=(if (zzl vars).toList=[] then hdB nm (zyA vars) (zyu vars) else hdB nm (zyA vars) (zyu vars)++⟨#[118,97,114,32]⟩++zzl vars)++⟨#[123,32]⟩++zy8 (eqs.zip bts)++⟨#[125,10]⟩):=rfl;clear hs1 hs2 hvz;generalize zyA vars=I at *;generalize zyu vars=O at *;generalize zzl vars=lo at *;generalize zyf ⟨#[32,44,32]⟩ I=j1 at *;generalize zyf ⟨#[32,44,32]⟩ O=j2 at *;go_upto_region 13 with fail
    go_quiet (first
     | (go_at_call 150;with_reducible exact (HJ1.o _).mono (λe w' h=>⟨h.1,_,h.2.symm⟩))
     | (go_at_call 150;with_reducible exact (HJ2.o _).mono (λe w' h=>⟨h.1,_,h.2.symm⟩)))
    by_cases hlo:lo.toList=[]
    . have hq:(lo.toList==[])=true:=beq_iff_eq.2 hlo;obtain⟨P,hP⟩:∃P,⟨#[110,111,100,101,32]⟩++nm++⟨#[32,40,32]⟩++j1++⟨#[32,41,32,45,62,32,40,32]⟩++j2++⟨#[32,41,32]⟩++⟨#[123,32]⟩=P:=⟨_,rfl⟩;have HP:Hid (zyO nm vars (eqs.zip bts)=P++zy8 (eqs.zip bts)++⟨#[125,10]⟩):=(by unfold Hid;rw[HLO.o,if_pos hlo,HH.o,hP]);have hPz:P.size<=100000000000000:=(by rw[<- hP];simp only[ByteArray.size_append];have t1:∀a:Array UInt8,(⟨a⟩:ByteArray).size=a.size:=λ_=>rfl;simp only[t1];simp;omega);have HPP:=za hP;clear hP hlo HLO;go_wp2_with fail;rw[HPP.o];clear HPP hq;obtain⟨wo,rfl⟩:∃wo,wo=wr:=⟨_,rfl⟩;obtain⟨go,rfl⟩:∃go,go=gk:=⟨_,rfl⟩;have HW0:Hid ((wo.drewN nq).heap[w.heap.size]?=some (NdV.obj ⟨nm,na,va,vars.length,vc,xa,xn,xc,qa,eqs.length,qc⟩)/\xB w (wo.drewN nq)/\w.heap.size+1<=(wo.drewN nq).heap.size):=⟨HI.o.nd,⟨HI.o.bel.os,HI.o.bel.tape,HI.o.bel.output,HI.o.bel.size,HI.o.bel.block⟩,HI.o.siz⟩;go_loopg [8,9,10,11,12] eqs.length (λm s i _ _ _ wr=>∃(k:Nat) (S:ByteArray),k+m=eqs.length/\i=xI k/\s=.string S/\Hid (S=P++zy8 ((eqs.zip bts).take k))/\S.size<=100000000000000+k*2000000000020/\Hid (wr.heap[w.heap.size]?=some (NdV.obj ⟨nm,na,va,vars.length,vc,xa,xn,xc,qa,eqs.length,qc⟩)/\xB w wr/\w.heap.size+1<=wr.heap.size));case atStart=>exact⟨0,P,by omega,rfl,rfl,(zAE P).symm,by omega,HW0⟩
      case round =>
       obtain⟨k,S,hkm,rfl,rfl,HS,hSz,HW⟩:=hrel;obtain⟨hnd,hbl,hsz⟩:=HW.o;obtain⟨n0,n1,n2,n3,n4,nf,nz⟩:=zcf hnd;by_cases hk:k<eqs.length
       . obtain⟨q,hq⟩:∃q,eqs[k]?=some q:=⟨eqs[k],zsc hk⟩;obtain⟨b,hb⟩:∃b,bts[k]?=some b:=⟨bts[k]'(by have:=HBL.o;omega),zsc _⟩;obtain⟨hT,hbz,hlz'⟩:=HBT.o k q b hq hb;obtain⟨a9,c9,e9,_,h9⟩:=HQ.o wr hbl;cases e9;obtain⟨g,u1,u2,p1,p2,p3,e8,hg,m0,m1,m2,m3,hstr⟩:=h9 k q hq;cases e8;have hgw:g<wr.heap.size:=(by omega);have hki:(k:Int)<eqs.length:=(by omega);have HJ:Hid (∀o,xK 150 #[.slice u1 q.ns.length u2,.string ⟨#[32,44,32]⟩] (wr.alloc o) (λe w'=>e=.returned (.string (zyf ⟨#[32,44,32]⟩ q.ns))/\wr.alloc o=w')):=λo=>zzA _ _ ⟨#[32,44,32]⟩ (show 3<=10 by decide) (wr.alloc o) ((hstr.bel ((Below.refl _ wr).alloc (by omega) o)).strs);have HTx:Hid (∀o,xK 151 #[.agg #[.string nm,xI na,.slice va vars.length vc,.slice xa xn xc,xS g eqs.length qc],xI (q.ex:Nat)] (wr.alloc o) (λe w'=>e=.returned (.string b)/\Below (wr.alloc o).heap.size (wr.alloc o) w')):=λo=>zDc hT ⟨nm,na,va,vars.length,vc,xa,xn,xc,some (xD g 0),eqs.length,qc⟩ (wr.alloc o) (HX.o _ (hbl.alloc hbl.size o)) (by rw[zsb];omega);have HE:Hid (zy8 ((eqs.zip bts).take (k+1))=zy8 ((eqs.zip bts).take k)++zyw q.ns++⟨#[32,61,32]⟩++b++⟨#[32,59,32]⟩):=(by unfold Hid;rw[zzk (x:=(q,b)) (by rw[List.getElem?_zip_eq_some];exact⟨hq,hb⟩),zBJ]);have hjz:(zyf ⟨#[32,44,32]⟩ q.ns).size<=1000000000000:=by
          unfold zyw at hlz';split at hlz'
          . rw[ByteArray.size_append,ByteArray.size_append] at hlz';omega
          . exact hlz'
         obtain⟨m,rfl⟩:∃m,gk=m+1:=⟨gk-1,by omega⟩;have HBl:=za hbl;have HN:=za hnd;clear h9 hT hstr hbl hnd HW HJ1 HJ2;by_cases hgt:1<q.ns.length
         . have hgi:((1:Int)<q.ns.length):=(by omega);have HLf:Hid (zyw q.ns=⟨#[40,32]⟩++zyf ⟨#[32,44,32]⟩ q.ns++⟨#[32,41]⟩):=(by unfold Hid zyw;rw[if_pos hgt]);clear hgt;generalize zyf ⟨#[32,44,32]⟩ q.ns=jj at *;go_wp2_with (first|(go_at_call 151;refine (HTx.o _).mono ?_;rintro e w3 ⟨rfl,hB3⟩;have HB3:=za hB3;clear hB3)|(go_at_call 150;refine (HJ.o _).mono ?_;rintro e w4 ⟨rfl,rfl⟩));go_roundg m;case measure=>omega
           case rel =>
            have hz3:=HB3.o.size;rw[zsb] at hz3;refine⟨k+1,_,by omega,by simp,rfl,?_,?_,(HB3.o.block _ (by rw[zsb];omega)).trans ((Below.heap_alloc _ _ _ (by omega)).trans HN.o),(HBl.o.alloc HBl.o.size _).trans (HB3.o.mono (by rw[zsb];omega)),by omega⟩
            . unfold Hid;rw[HE.o,HS.o,HLf.o];simp only[ByteArray.append_assoc]
            . simp only[ByteArray.size_append];have t1:∀a:Array UInt8,(⟨a⟩:ByteArray).size=a.size:=λ_=>rfl;simp only[t1];simp;omega
         . have hgi:¬((1:Int)<q.ns.length):=(by omega);have HLf:Hid (zyw q.ns=zyf ⟨#[32,44,32]⟩ q.ns):=(by unfold Hid zyw;rw[if_neg hgt]);clear hgt;generalize zyf ⟨#[32,44,32]⟩ q.ns=jj at *;go_wp2_with (first|(go_at_call 151;refine (HTx.o _).mono ?_;rintro e w3 ⟨rfl,hB3⟩;have HB3:=za hB3;clear hB3)|(go_at_call 150;refine (HJ.o _).mono ?_;rintro e w4 ⟨rfl,rfl⟩));go_roundg m;case measure=>omega
           case rel =>
            have hz3:=HB3.o.size;rw[zsb] at hz3;refine⟨k+1,_,by omega,by simp,rfl,?_,?_,(HB3.o.block _ (by rw[zsb];omega)).trans ((Below.heap_alloc _ _ _ (by omega)).trans HN.o),(HBl.o.alloc HBl.o.size _).trans (HB3.o.mono (by rw[zsb];omega)),by omega⟩
            . unfold Hid;rw[HE.o,HS.o,HLf.o];simp only[ByteArray.append_assoc]
            . simp only[ByteArray.size_append];have t1:∀a:Array UInt8,(⟨a⟩:ByteArray).size=a.size:=λ_=>rfl;simp only[t1];simp;omega
       . have hke2:¬((k:Int)<eqs.length):=(by omega);have hkz:(eqs.zip bts).take k=eqs.zip bts:=List.take_of_length_le (by rw[List.length_zip];omega);rw[hkz] at HS;go_wp2_with fail;go_ret;exact⟨by rw[HP.o,HS.o];rfl,hbl⟩
    . have hq:(lo.toList==[])=false:=beq_eq_false_iff_ne.2 hlo;obtain⟨P,hP⟩:∃P,⟨#[110,111,100,101,32]⟩++nm++⟨#[32,40,32]⟩++j1++⟨#[32,41,32,45,62,32,40,32]⟩++j2++⟨#[32,41,32]⟩++⟨#[118,97,114,32]⟩++lo++⟨#[123,32]⟩=P:=⟨_,rfl⟩;have HP:Hid (zyO nm vars (eqs.zip bts)=P++zy8 (eqs.zip bts)++⟨#[125,10]⟩):=(by unfold Hid;rw[HLO.o,if_neg hlo,HH.o,hP]);have hPz:P.size<=100000000000000:=(by rw[<- hP];simp only[ByteArray.size_append];have t1:∀a:Array UInt8,(⟨a⟩:ByteArray).size=a.size:=λ_=>rfl;simp only[t1];simp;omega);have HPP:=za hP;clear hP hlo HLO;go_wp2_with fail;rw[HPP.o];clear HPP hq;obtain⟨wo,rfl⟩:∃wo,wo=wr:=⟨_,rfl⟩;obtain⟨go,rfl⟩:∃go,go=gk:=⟨_,rfl⟩;have HW0:Hid ((wo.drewN nq).heap[w.heap.size]?=some (NdV.obj ⟨nm,na,va,vars.length,vc,xa,xn,xc,qa,eqs.length,qc⟩)/\xB w (wo.drewN nq)/\w.heap.size+1<=(wo.drewN nq).heap.size):=⟨HI.o.nd,⟨HI.o.bel.os,HI.o.bel.tape,HI.o.bel.output,HI.o.bel.size,HI.o.bel.block⟩,HI.o.siz⟩;go_loopg [8,9,10,11,12] eqs.length (λm s i _ _ _ wr=>∃(k:Nat) (S:ByteArray),k+m=eqs.length/\i=xI k/\s=.string S/\Hid (S=P++zy8 ((eqs.zip bts).take k))/\S.size<=100000000000000+k*2000000000020/\Hid (wr.heap[w.heap.size]?=some (NdV.obj ⟨nm,na,va,vars.length,vc,xa,xn,xc,qa,eqs.length,qc⟩)/\xB w wr/\w.heap.size+1<=wr.heap.size));case atStart=>exact⟨0,P,by omega,rfl,rfl,(zAE P).symm,by omega,HW0⟩
      case round =>
       obtain⟨k,S,hkm,rfl,rfl,HS,hSz,HW⟩:=hrel;obtain⟨hnd,hbl,hsz⟩:=HW.o;obtain⟨n0,n1,n2,n3,n4,nf,nz⟩:=zcf hnd;by_cases hk:k<eqs.length
       . obtain⟨q,hq⟩:∃q,eqs[k]?=some q:=⟨eqs[k],zsc hk⟩;obtain⟨b,hb⟩:∃b,bts[k]?=some b:=⟨bts[k]'(by have:=HBL.o;omega),zsc _⟩;obtain⟨hT,hbz,hlz'⟩:=HBT.o k q b hq hb;obtain⟨a9,c9,e9,_,h9⟩:=HQ.o wr hbl;cases e9;obtain⟨g,u1,u2,p1,p2,p3,e8,hg,m0,m1,m2,m3,hstr⟩:=h9 k q hq;cases e8;have hgw:g<wr.heap.size:=(by omega);have hki:(k:Int)<eqs.length:=(by omega);have HJ:Hid (∀o,xK 150 #[.slice u1 q.ns.length u2,.string ⟨#[32,44,32]⟩] (wr.alloc o) (λe w'=>e=.returned (.string (zyf ⟨#[32,44,32]⟩ q.ns))/\wr.alloc o=w')):=λo=>zzA _ _ ⟨#[32,44,32]⟩ (show 3<=10 by decide) (wr.alloc o) ((hstr.bel ((Below.refl _ wr).alloc (by omega) o)).strs);have HTx:Hid (∀o,xK 151 #[.agg #[.string nm,xI na,.slice va vars.length vc,.slice xa xn xc,xS g eqs.length qc],xI (q.ex:Nat)] (wr.alloc o) (λe w'=>e=.returned (.string b)/\Below (wr.alloc o).heap.size (wr.alloc o) w')):=λo=>zDc hT ⟨nm,na,va,vars.length,vc,xa,xn,xc,some (xD g 0),eqs.length,qc⟩ (wr.alloc o) (HX.o _ (hbl.alloc hbl.size o)) (by rw[zsb];omega);have HE:Hid (zy8 ((eqs.zip bts).take (k+1))=zy8 ((eqs.zip bts).take k)++zyw q.ns++⟨#[32,61,32]⟩++b++⟨#[32,59,32]⟩):=(by unfold Hid;rw[zzk (x:=(q,b)) (by rw[List.getElem?_zip_eq_some];exact⟨hq,hb⟩),zBJ]);have hjz:(zyf ⟨#[32,44,32]⟩ q.ns).size<=1000000000000:=by
          unfold zyw at hlz';split at hlz'
          . rw[ByteArray.size_append,ByteArray.size_append] at hlz';omega
          . exact hlz'
         obtain⟨m,rfl⟩:∃m,gk=m+1:=⟨gk-1,by omega⟩;have HBl:=za hbl;have HN:=za hnd;clear h9 hT hstr hbl hnd HW HJ1 HJ2;by_cases hgt:1<q.ns.length
         . have hgi:((1:Int)<q.ns.length):=(by omega);have HLf:Hid (zyw q.ns=⟨#[40,32]⟩++zyf ⟨#[32,44,32]⟩ q.ns++⟨#[32,41]⟩):=(by unfold Hid zyw;rw[if_pos hgt]);clear hgt;generalize zyf ⟨#[32,44,32]⟩ q.ns=jj at *;go_wp2_with (first|(go_at_call 151;refine (HTx.o _).mono ?_;rintro e w3 ⟨rfl,hB3⟩;have HB3:=za hB3;clear hB3)|(go_at_call 150;refine (HJ.o _).mono ?_;rintro e w4 ⟨rfl,rfl⟩));go_roundg m;case measure=>omega
           case rel =>
            have hz3:=HB3.o.size;rw[zsb] at hz3;refine⟨k+1,_,by omega,by simp,rfl,?_,?_,(HB3.o.block _ (by rw[zsb];omega)).trans ((Below.heap_alloc _ _ _ (by omega)).trans HN.o),(HBl.o.alloc HBl.o.size _).trans (HB3.o.mono (by rw[zsb];omega)),by omega⟩
            . unfold Hid;rw[HE.o,HS.o,HLf.o];simp only[ByteArray.append_assoc]
            . simp only[ByteArray.size_append];have t1:∀a:Array UInt8,(⟨a⟩:ByteArray).size=a.size:=λ_=>rfl;simp only[t1];simp;omega
         . have hgi:¬((1:Int)<q.ns.length):=(by omega);have HLf:Hid (zyw q.ns=zyf ⟨#[32,44,32]⟩ q.ns):=(by unfold Hid zyw;rw[if_neg hgt]);clear hgt;generalize zyf ⟨#[32,44,32]⟩ q.ns=jj at *;go_wp2_with (first|(go_at_call 151;refine (HTx.o _).mono ?_;rintro e w3 ⟨rfl,hB3⟩;have HB3:=za hB3;clear hB3)|(go_at_call 150;refine (HJ.o _).mono ?_;rintro e w4 ⟨rfl,rfl⟩));go_roundg m;case measure=>omega
           case rel =>
            have hz3:=HB3.o.size;rw[zsb] at hz3;refine⟨k+1,_,by omega,by simp,rfl,?_,?_,(HB3.o.block _ (by rw[zsb];omega)).trans ((Below.heap_alloc _ _ _ (by omega)).trans HN.o),(HBl.o.alloc HBl.o.size _).trans (HB3.o.mono (by rw[zsb];omega)),by omega⟩
            . unfold Hid;rw[HE.o,HS.o,HLf.o];simp only[ByteArray.append_assoc]
            . simp only[ByteArray.size_append];have t1:∀a:Array UInt8,(⟨a⟩:ByteArray).size=a.size:=λ_=>rfl;simp only[t1];simp;omega
       . have hke2:¬((k:Int)<eqs.length):=(by omega);have hkz:(eqs.zip bts).take k=eqs.zip bts:=List.take_of_length_le (by rw[List.length_zip];omega);rw[hkz] at HS;go_wp2_with fail;go_ret;exact⟨by rw[HP.o,HS.o];rfl,hbl⟩
end
section
variable {B rb sz:Nat} {v:Value} {w:World}
theorem zzN {α:Type}(hs:0<sz)(f:α->List Value)(hf:∀a,(f a).length=sz):∀(l:List α) (x i:Nat) (a:α),l[x]?=some a->i<sz->(l.flatMap f)[x*sz+i]?=(f a)[i]?
 | [],x,i,a,h,_=>by simp at h
 | b::l,0,i,a,h,hi=>by simp at h;subst h;rw[List.flatMap_cons,Nat.zero_mul,Nat.zero_add,List.getElem?_append_left (by rw[hf];exact hi)]
 | b::l,x+1,i,a,h,hi=>by have ih:=zzN hs f hf l x i a (by simpa using h) hi;rw[List.flatMap_cons,List.getElem?_append_right (by rw[hf,Nat.succ_mul];omega),hf,<- ih];congr 1;rw[Nat.succ_mul];omega
theorem zAf:∀(L:List Ex) (vs:List Value),L.length=vs.length->zyV L vs=(L.zip vs).flatMap λp=>zy5 p.1 p.2
 | [],[],_=>rfl
 | [],_::_,h=>by simp at h
 | _::_,[],h=>by simp at h
 | e::L,v::vs,h=>by rw[zyV,zAf L vs (by simpa using h)];rfl
theorem zAg:∀(l:List Vr),zyv l=l.flatMap zyz
 | []=>rfl
 | v::l=>by rw[zyv,zAg l];rfl
theorem zAC:∀(L:List Eqn) (ps:List (Value×Value)),L.length=ps.length->zyP L ps=(L.zip ps).flatMap λp=>zy4 p.1 p.2
 | [],[],_=>rfl
 | [],_::_,h=>by simp at h
 | _::_,[],h=>by simp at h
 | e::L,v::vs,h=>by rw[zyP,zAC L vs (by simpa using h)];rfl
theorem zAv:∀(L:List Nd) (ps:List Sub),L.length=ps.length->zyY L ps=(L.zip ps).flatMap λp=>zza p.1 p.2
 | [],[],_=>rfl
 | [],_::_,h=>by simp at h
 | _::_,[],h=>by simp at h
 | e::L,v::vs,h=>by rw[zyY,zAv L vs (by simpa using h)];rfl
theorem zyN {e n:Nat}{l:List Value}(h:w.ownsRow B e sz v n l):∃a cap,v=.slice a n cap/\∀(j:Nat) (u:Value),l[j]?=some u->∃g,a=some (xD g 0)/\g<w.heap.size/\xC w g j u:=by
 rcases h.2 with ⟨h2,h3⟩|⟨g,cap,cur,h2,_⟩
 . subst h2 h3;refine⟨none,0,rfl,λj u hj=>?_⟩;have h1:=h.1;have:=(List.getElem?_eq_some_iff.1 hj).1;simp at h1;rw[h1] at this;simp at this
 . subst h2;refine⟨_,cap,rfl,λj u hj=>⟨g,rfl,(h.lt g rfl).2,?_⟩⟩;have:=h.cells (g:=g) rfl j u hj;have e0:((xD g 0):Addr).add j=⟨g,j,none⟩:=by cases j <;> simp[Addr.add]
   rwa [e0] at this
theorem zBC {α β:Type}{l:List α}{m:List β}(hl:l.length=m.length){x:Nat}{a:α}(h:l[x]?=some a):∃b,m[x]?=some b/\(l.zip m)[x]?=some (a,b):=by have hx:=(List.getElem?_eq_some_iff.1 h).1;refine⟨m[x]'(by omega),zsc _,?_⟩;rw[List.getElem?_zip_eq_some];exact⟨h,zsc _⟩
theorem zEQ {l:List Nat}(h:w.ownsRow B 3 1 v l.length (zyp l))(hl:l.length<=100000):zCl w w.heap.size v l:=by obtain⟨a,cap,e,h2⟩:=zyN h;refine⟨a,cap,e,hl,λk n hk=>?_⟩;exact h2 k _ (by unfold zyp;rw[List.getElem?_map,hk];rfl)
theorem zGq {xs:Rw}{L:List Ex}(h:zx8 w B xs L)(hL:L.length<=100000)(hi:∀e∈L,e.ins.length<=100000):Txs w w.heap.size xs.v L:=by
 obtain⟨h1,h2,h3⟩:=h;rw[zAf L xs.ins h1] at h2;obtain⟨a,cap,e,h4⟩:=zyN h2;refine⟨a,cap,e,hL,λx ex hx=>?_⟩;obtain⟨u,hu,hz⟩:=zBC h1 hx;have c:∀i v,i<6->(zy5 ex u)[i]?=some v->∃g,a=some (xD g 0)/\g<w.heap.size/\xC w g (x*6+i) v:=λi v hi hv=>h4 _ _ ((zzN (by decide) (λp:Ex×Value=>zy5 p.1 p.2) (λ_=>rfl) _ x i (ex,u) hz hi).trans hv);obtain⟨g,e1,e2,c0⟩:=c 0 _ (by decide) rfl;have d:∀i v,i<6->(zy5 ex u)[i]?=some v->xC w g (x*6+i) v:=λi v hi hv=>by obtain⟨g',e',_,c'⟩:=c i v hi hv;rw[e1] at e';cases e';exact c'
 exact⟨g,u,e1,e2,⟨c0,d 1 _ (by decide) rfl,d 2 _ (by decide) rfl,d 3 _ (by decide) rfl,d 4 _ (by decide) rfl,d 5 _ (by decide) rfl⟩,zEQ (h3 x ex u hx hu) (hi ex (List.mem_of_getElem? hx))⟩
theorem zGH {l:List Vr}(h:zyh w rb v l)(hl:l.length<=16)(hS:∀x∈l,VrS x):Vrs w w.heap.size v l:=by
 unfold zyh at h;rw[zAg] at h;obtain⟨a,cap,e,h4⟩:=zyN h;refine⟨a,cap,e,hl,λx ex hx=>⟨hS ex (List.mem_of_getElem? hx),?_⟩⟩;have c:∀i v,i<10->(zyz ex)[i]?=some v->∃g,a=some (xD g 0)/\g<w.heap.size/\xC w g (x*10+i) v:=λi v hi hv=>h4 _ _ ((zzN (by decide) zyz (λ_=>rfl) _ x i ex hx hi).trans hv);obtain⟨g,e1,e2,c0⟩:=c 0 _ (by decide) rfl;have d:∀i v,i<10->(zyz ex)[i]?=some v->xC w g (x*10+i) v:=λi v hi hv=>by obtain⟨g',e',_,c'⟩:=c i v hi hv;rw[e1] at e';cases e';exact c'
 exact⟨g,e1,e2,c0,d 1 _ (by decide) rfl,d 2 _ (by decide) rfl,d 3 _ (by decide) rfl,d 4 _ (by decide) rfl,d 5 _ (by decide) rfl,d 6 _ (by decide) rfl,d 7 _ (by decide) rfl,d 8 _ (by decide) rfl,d 9 _ (by decide) rfl⟩
theorem zDX {l:List ByteArray}(h:w.ownsRow B 9 1 v l.length (zzE l))(hl:l.length<=100000)(hS:∀s∈l,s.size<=1200):zz6 w w.heap.size v l:=by obtain⟨a,cap,e,h2⟩:=zyN h;refine⟨a,cap,e,hl,λk s hk=>⟨by have:=hS s (List.mem_of_getElem? hk);omega,?_⟩⟩;exact h2 k _ (by unfold zzE;rw[List.getElem?_map,hk];rfl)
theorem zGv {q:Qw}{l:List Eqn}(h:zyH w rb q l)(hl:l.length<=100000)(hS:∀x∈l,x.ns.length<=100000/\∀s∈x.ns,s.size<=1200):Qns w w.heap.size q.v l:=by
 obtain⟨h1,h2,h3⟩:=h;rw[zAC l q.subs h1] at h2;obtain⟨a,cap,e,h4⟩:=zyN h2;refine⟨a,cap,e,hl,λx ex hx=>?_⟩;obtain⟨u,hu,hz⟩:=zBC h1 hx;obtain⟨k1,k2⟩:=h3 x ex u hx hu;obtain⟨hn,hs⟩:=hS ex (List.mem_of_getElem? hx);have s1:=zDX k1 hn hs;obtain⟨u1,u2,eu,_⟩:=zyN k1;obtain⟨p1,p3,ep,_⟩:=zyN k2;rw[eu] at s1;have c:∀i v,i<4->(zy4 ex u)[i]?=some v->∃g,a=some (xD g 0)/\g<w.heap.size/\xC w g (x*4+i) v:=λi v hi hv=>h4 _ _ ((zzN (by decide) (λp:Eqn×(Value×Value)=>zy4 p.1 p.2) (λ_=>rfl) _ x i (ex,u) hz hi).trans hv);obtain⟨g,e1,e2,c0⟩:=c 0 _ (by decide) rfl;have d:∀i v,i<4->(zy4 ex u)[i]?=some v->xC w g (x*4+i) v:=λi v hi hv=>by obtain⟨g',e',_,c'⟩:=c i v hi hv;rw[e1] at e';cases e';exact c'
 exact⟨g,u1,u2,p1,ex.ps.length,p3,e1,e2,eu▸c0,ep▸d 1 _ (by decide) rfl,d 2 _ (by decide) rfl,d 3 _ (by decide) rfl,s1⟩
end
section
def zEZ (d:Nd)(bts:List ByteArray):Prop:=bts.length=d.eqs.length/\∀(i:Nat) (q:Eqn) (b:ByteArray),d.eqs[i]?=some q->bts[i]?=some b->TxR d.exs q.ex b/\b.size<=1000000000000/\(zyw q.ns).size<=1000000000000
structure zE4 (d:Nd):Prop where
 small:NdS d
 exs:d.exs.length<=100000
 ins:∀e∈d.exs,e.ins.length<=100000
 vars:d.vars.length<=16
 eqs:d.eqs.length<=2000
 ns:∀q∈d.eqs,q.ns.length<=100000
def zAe (l:List (Nd×List ByteArray)):ByteArray:=l.foldl (λs p=>s++zyO p.1.nm p.1.vars (p.1.eqs.zip p.2)) ⟨#[]⟩
theorem zDs (l:List (Nd×List ByteArray))(p:Nd×List ByteArray):zAe (l++[p])=zAe l++zyO p.1.nm p.1.vars (p.1.eqs.zip p.2):=by unfold zAe;rw[List.foldl_append];rfl
theorem zAj (s:ByteArray)(er at':Nat)(h1:1<=er)(w:World)(hR:xK 87 #[.string s] w (λe w'=>e=.returned (.tuple #[.slice none 0 0,xI er,xI at'])/\xB w w')) :
 xK 40 #[.string s] w (λe w'=>e=.returned (.tuple #[.string ⟨#[]⟩,xI er,xI at'])/\xB w w'):=by
 have HR:=za hR;have hn:((er:Int) != 0)=true:=by rw[bne_iff_ne];omega
 clear hR;go_enter func40,ntmps40;go_wp2_with (go_at_call 87;refine HR.o.mono ?_;rintro e w1 ⟨rfl,hB⟩);exact bodyPost_ret (v:=.tuple #[.string ⟨#[]⟩,xI er,xI at']) (by simp[results,results40,go_sem]) rfl ⟨rfl,hB⟩
theorem zCr (s:ByteArray)(nds:List Nd)(tx:List (List ByteArray))(hl:tx.length=nds.length)(h6:nds.length<=6)(hP:∀d∈nds,zE4 d)(hT:∀(i:Nat) (d:Nd) (b:List ByteArray),nds[i]?=some d->tx[i]?=some b->zEZ d b/\(zyO d.nm d.vars (d.eqs.zip b)).size<=10000000000000000)(w:World)
 (hR:xK 87 #[.string s] w (λe w'=>∃(rb:Nat) (n:Nw),w.heap.size<=rb/\e=.returned (.tuple #[n.v,xI 0,xI 0])/\zyT w' rb n nds/\xB w w')) :
 xK 40 #[.string s] w (λe w'=>e=.returned (.tuple #[.string (zAe (nds.zip tx)),xI 0,xI 0])/\xB w w'):=by
 have HR:=za hR;have HP:=za hP;have HT:=za hT;have HL:=za hl;clear hR hP hT hl;go_enter func40,ntmps40;go_wp2_with (go_at_call 87;refine HR.o.mono ?_;rintro e w1 ⟨rb,n,hrb,rfl,hN,hB⟩;obtain⟨na,nc,hnv,hnc⟩:=zyN hN.2.1;have HN:=za hN;have HC:=za hnc;have HB:=za hB;rw[hnv];clear hN hB hnc hnv hrb);go_loopg [8,9,10] nds.length (λm s i _ wr=>∃(k:Nat) (S:ByteArray),k+m=nds.length/\i=xI k/\s=.string S/\Hid (S=zAe ((nds.zip tx).take k))/\S.size<=k*10000000000000000/\Hid (xB w1 wr));case atStart=>exact⟨0,⟨#[]⟩,by omega,rfl,rfl,rfl,Nat.zero_le _,Below.refl _ _⟩
 case round =>
  obtain⟨k,S,hkm,rfl,rfl,HS,hSz,HW⟩:=hrel;by_cases hk:k<nds.length
  . obtain⟨d,hd⟩:∃d,nds[k]?=some d:=⟨nds[k],zsc hk⟩;obtain⟨b,hb⟩:∃b,tx[k]?=some b:=⟨tx[k]'(by have:=HL.o;omega),zsc _⟩;obtain⟨sb,hsb,hzz⟩:=zBC HN.o.1 hd;obtain⟨hTx,hsz⟩:=HT.o k d b hd hb;have hPd:=HP.o d (List.mem_of_getElem? hd);obtain⟨r1,r2,r3⟩:=HN.o.2.2 k d sb hd hsb;have v1:=(zGH r1 hPd.vars hPd.small.vars).bel HW.o;have v2:=(zGq r2 hPd.exs hPd.ins).bel HW.o;have v3:=(zGv r3 (by have:=hPd.eqs;omega) (λq hq=>⟨hPd.ns q hq,hPd.small.eqs q hq⟩)).bel HW.o;obtain⟨va,vc,ev,_⟩:=zyN r1;obtain⟨xa,xc,ex,_⟩:=zyN r2.2.1;obtain⟨qa,qc,eq,_⟩:=zyN r3.2.1;rw[ev] at v1;rw[ex] at v2;rw[eq] at v3;have c:∀i v,i<5->(zza d sb)[i]?=some v->∃g,na=some (xD g 0)/\g<w1.heap.size/\xC w1 g (k*5+i) v:=λi v hi hv=>HC.o _ _ (by rw[zAv nds n.subs HN.o.1];exact (zzN (by decide) (λp:Nd×Sub=>zza p.1 p.2) (λ_=>rfl) _ k i (d,sb) hzz hi).trans hv);obtain⟨g,e1,e2,c0⟩:=c 0 _ (by decide) rfl;have dd:∀i v,i<5->(zza d sb)[i]?=some v->xC wr g (k*5+i) v:=λi v hi hv=>by obtain⟨g',e',_,c'⟩:=c i v hi hv;rw[e1] at e';cases e';exact zye HW.o e2 c'
    have d0:xC wr g (k*5) (.string d.nm):=dd 0 _ (by decide) rfl;have d1:=dd 1 _ (by decide) rfl;have d2:=dd 2 _ (by decide) rfl;have d3:=dd 3 _ (by decide) rfl;have d4:=dd 4 _ (by decide) rfl;rw[ev] at d2;rw[ex] at d3;rw[eq] at d4;subst e1;have hki:(k:Int)<nds.length:=(by omega);have HPn:Hid (xK 88 #[.agg #[.string d.nm,xI d.a,.slice va d.vars.length vc,.slice xa d.exs.length xc,.slice qa d.eqs.length qc]] wr (λe w'=>e=.returned (.string (zyO d.nm d.vars (d.eqs.zip b)))/\xB wr w')):=zGc w1.heap.size ⟨d.nm,d.a,va,d.vars.length,vc,xa,d.exs.length,xc,qa,d.eqs.length,qc⟩ d.vars d.exs d.eqs b hTx.1 hTx.2 wr v1 v2 v3 HW.o.size hPd.small.nm hPd.eqs;have HE:Hid (zAe ((nds.zip tx).take (k+1))=zAe ((nds.zip tx).take k)++zyO d.nm d.vars (d.eqs.zip b)):=(by unfold Hid;rw[zzk (x:=(d,b)) (by rw[List.getElem?_zip_eq_some];exact⟨hd,hb⟩),zDs]);obtain⟨m,rfl⟩:∃m,gk=m+1:=⟨gk-1,by omega⟩;clear c dd v1 v2 v3 r1 r2 r3 hTx hPd c0 ev ex eq;generalize zyO d.nm d.vars (d.eqs.zip b)=T at *;go_wp2_with (go_at_call 88;refine HPn.o.mono ?_;rintro e w3 ⟨rfl,hB3⟩;have HB3:=za hB3;clear hB3);go_roundg m;case measure=>omega
    case rel => refine⟨k+1,S++T,by omega,by simp,rfl,by unfold Hid;rw[HE.o,HS.o],?_,HW.o.trans (HB3.o.mono HW.o.size)⟩;rw[ByteArray.size_append];omega
  . have hke:¬((k:Int)<nds.length):=by omega
    have hkz:(nds.zip tx).take k=nds.zip tx:=List.take_of_length_le (by rw[List.length_zip];omega);rw[hkz] at HS;go_wp2_with fail;refine bodyPost_ret (v:=.tuple #[.string S,xI 0,xI 0]) (by simp[results,results40,go_sem]) rfl ⟨by rw[HS.o],HB.o.trans (HW.o.mono HB.o.size)⟩
theorem zkj (c:Nat)(w:World):xK 67 #[.int .u8 c] w λe w'=>e=.returned (.bool (zbY c))/\w=w':=by
 have e1:((c:Int)==32)=(c==32):=by rw[Bool.eq_iff_iff];simp;omega
 have e2:((c:Int)==10)=(c==10):=by rw[Bool.eq_iff_iff];simp;omega
 unfold zbY;rw[<- e1,<- e2];clear e1 e2;go_enter func67,ntmps67;go_wp2;all_goals go_ret
 all_goals simp[*]
theorem zb2 (c:Nat)(w:World):xK 68 #[.int .u8 c] w λe w'=>e=.returned (.bool (zeM c))/\w=w':=by
 have e:zeM c=(decide ((97:Int)<=c)&&decide ((c:Int)<=122)):=by unfold zeM;rw[Bool.eq_iff_iff];simp;omega
 rw[e];clear e;go_enter func68,ntmps68;go_wp2;all_goals go_ret
 . exact⟨by rename_i h;simp[h],rfl⟩
 . exact⟨by rename_i h;simp;omega,rfl⟩
theorem zcp (c:Nat)(w:World):xK 70 #[.int .u8 c] w λe w'=>e=.returned (.bool (zT c))/\w=w':=by
 have e:zT c=(decide ((48:Int)<=c)&&decide ((c:Int)<=57)):=by unfold zT;rw[Bool.eq_iff_iff];simp;omega
 rw[e];clear e;go_enter func70,ntmps70;go_wp2;all_goals go_ret
 . exact⟨by rename_i h;simp[h],rfl⟩
 . exact⟨by rename_i h;simp;omega,rfl⟩
theorem zfy (c:Nat)(w:World):xK 129 #[.int .u8 c] w λe w'=>e=.returned (.bool (inW c))/\w=w':=by
 have e1:((c:Int)==95)=(c==95):=by rw[Bool.eq_iff_iff];simp;omega
 unfold inW;rw[<- e1];clear e1;cases h1:zeM c with
 | true => go_enter func129,ntmps129;go_wp2_with (go_at_call 68;refine (zb2 c _).mono ?_;rintro e w' ⟨rfl,rfl⟩;rw[h1]);go_ret;simp
 | false =>
   cases h2:zT c with
   | true => go_enter func129,ntmps129;go_wp2_with (first|(go_at_call 68;refine (zb2 c _).mono ?_;rintro e w' ⟨rfl,rfl⟩;rw[h1])|(go_at_call 70;refine (zcp c _).mono ?_;rintro e w' ⟨rfl,rfl⟩;rw[h2]));go_ret;simp
   | false => go_enter func129,ntmps129;go_wp2_with (first|(go_at_call 68;refine (zb2 c _).mono ?_;rintro e w' ⟨rfl,rfl⟩;rw[h1])|(go_at_call 70;refine (zcp c _).mono ?_;rintro e w' ⟨rfl,rfl⟩;rw[h2]));go_ret;simp
theorem zjX (s:ByteArray):zcW s=(s.toList==[110,111,100,101]||(s.toList==[118,97,114]||(s.toList==[105,110,116]||(s.toList==[98,111,111,108]||(s.toList==[111,110]||(s.toList==[110,111,116]||(s.toList==[97,110,100]||(s.toList==[111,114]||(s.toList==[120,111,114]||(s.toList==[105,102]||(s.toList==[116,104,101,110]||(s.toList==[101,108,115,101]||(s.toList==[109,101,114,103,101]||(s.toList==[119,104,101,110]||(s.toList==[119,104,101,110,111,116]||(s.toList==[102,98,121]||(s.toList==[116,114,117,101]||s.toList==[102,97,108,115,101]))))))))))))))))):=by simp[zcW,zdX]
theorem zd4 (s:ByteArray)(w:World):xK 130 #[.string s] w λe w'=>e=.returned (.bool (zcW s))/\w=w':=by
 rw[zjX];go_enter func130,ntmps130;go_wp2;all_goals go_ret
 all_goals first|(refine⟨?_,rfl⟩;simp[*];done)|(exfalso;simp_all;done)
end
end Go.Proofs.YtmfkofhgdjechaaGreatDoor
