/- Part 31. -/
import Derived.Test.YtcnelakggnfnhaaGreatDoorK29
set_option maxRecDepth 100000
set_option maxHeartbeats 8000000
namespace Go.Proofs.YtcnelakggnfnhaaGreatDoor
open Go.Proofs.Tryz
open Go.RowKit
section
variable {l:Xn} {v:Xv} {w:Xw}
def ae3 (l:Xn):ByteArray:=⟨(l.map UInt8.ofNat).toArray⟩
theorem ahp {g:Nat}(h:By w v g l)(d:l≠[]):(convert 23 9 v).run prog w=.ok (.string (ae3 l)) w:=by
 obtain⟨a,c,rfl,_,_,k⟩:=h.ex;obtain⟨o,rfl,f⟩:=k d;have:=run_convert_bytes_back (P:=prog) w 23 9 5 (xD g o) c (l.map UInt8.ofNat) underlying23 underlying5 underlying9 (λj i=>by
  have b:j<l.length:=by simpa using i
  have e:=f j _ (av b);have m:=h.lt _ (List.getElem_mem b);rw[show ((xD g o):Addr).add j=(xD g (o+j)) by cases j <;> simp[Addr.add]];rw[e,List.getElem_map,UInt8.toNat_ofNat'];congr 3;omega)
 rw[List.length_map] at this;exact this
theorem BR.str {B:Nat}{a:Xw}(h:BR B w v l)(b:∀x∈l,x<256)(c:l≠[])(e:xB w a):(convert 23 9 v).run prog a=.ok (.string (ae3 l)) a:=by have d:BR B a v l:=zi h (λk _ f _=>e.block k f);obtain⟨g,i⟩:=d.by b;exact ahp i c
theorem agU (S:Xs)(w:Xw)(K:Kn S w)(ar:Sn S w)(hT:fw w)(M:M9 w)(aL:Nq w)(src:Xb) :
 xK 3 #[.string src] w (λe w'=>e=.returned (.bool true)/\xB w w'):=by
 obtain⟨i,hg⟩:∃i,i=1300:=⟨_,rfl⟩;have G:=za (ahl S w K ar hT M aL);have y:=za (λsrc k p (Y:1<=k) (Z:k<=11) (h:oE src k p) W (a:xB w W)=>UG S src k p Y Z h W (K.bl a).gl (ar.on a) (hT.on a));have Q:=za (λsrc T k p (h:aaQ src T k p) W (a:xB w W)=>ac3 S src T k p h W (K.bl a) (ar.on a) (hT.on a));have u:=za (λsrc ns m n (h:Ru src ns m n i) W (a:xB w W)=>Wd S src m n h.fix 18 i 6 _ h.code W (K.bl a).gl (M.am (zm a (an _)) K.gl.size) (aL.am (zm a (an _)) K.gl.size));clear K ar hT M aL;have h:=ahn (gas:=i) (by omega) (by omega) src;unfold acR at h;rcases h with ⟨k,p,T,f,q,Y,Z,J,N⟩|⟨ns,m,n,T,J,N,O⟩
 . have E:=za (y.o _ _ _ Y Z J);have X:=za (Q.o _ _ _ _ N);have a1:¬(k:Int)=0:=by omega
   clear y Q u J N hg Y Z;go_enter func3,ntmps3
   go_wp2_with (first
    | (go_at_call 6;revert c;intro c;refine (X.o _ c.o).mono ?_;rintro e w3 ⟨rfl,a⟩;have d:=za (c.o.trans (a.mono c.o.size)))
    | (go_at_call 5;revert b;intro b;refine (E.o _ b.o).mono ?_;rintro e w2 ⟨rfl,a⟩;have c:=za (b.o.trans (a.mono b.o.size)))
    | (go_at_call 4;refine G.o.mono ?_;rintro e w1 ⟨rfl,a⟩;have b:=za a))
   go_ret;exact⟨rfl,d.o⟩
 have E:=za (u.o _ _ _ _ J);have X:=za (Q.o _ _ _ _ N);have s:∀x∈Nr (MW (OE i m n)),x<256:=Tj _ (RQ _ J.code.ops);have t:Nr (MW (OE i m n))≠[]:=by
  intro e;have:(Nr (MW (OE i m n))).length=(MW (OE i m n)).length+8:=by unfold Nr;rw[aP,PO]
  rw[e] at this;simp at this
 rcases O with ⟨g,p,O,R⟩|⟨ms,aV,n',O,R⟩
 . have P:=za (y.o _ _ _ (by omega) (by omega) R);obtain⟨L,U⟩:∃L,Nr (MW (OE i m n))=L:=⟨_,rfl⟩;rw[U] at E s t;have o:=za s;have r:=za t;clear y Q u J N R s t U hg;rcases O with rfl|rfl
   all_goals
    go_enter func3,ntmps3
    go_upto_region 10 with (first
     | (go_at_call 5;revert j;intro j;refine (E.o _ j.o).mono ?_;rintro e w5 ⟨v5,a0,rfl,C,_,a⟩;have I:=za C;have D:=za a;have F:=za (j.o.trans (a.mono j.o.size));clear C a)
     | (go_at_call 5;revert d;intro d;refine (P.o _ d.o).mono ?_;rintro e w4 ⟨rfl,a⟩;have A:=za a;have j:=za (d.o.trans (a.mono d.o.size));clear a)
     | (go_at_call 6;revert c;intro c;refine (X.o _ c.o).mono ?_;rintro e w3 ⟨rfl,a⟩;have z:=za a;have d:=za (c.o.trans (a.mono c.o.size));clear a)
     | (go_at_call 5;revert b;intro b;refine (E.o _ b.o).mono ?_;rintro e w2 ⟨v2,B2,rfl,B,_,a⟩;have H:=za B;have c:=za (b.o.trans (a.mono b.o.size));clear B a)
     | (go_at_call 4;refine G.o.mono ?_;rintro e w1 ⟨rfl,a⟩;have b:=za a))
    have c2:=H.o.str o.o r.o (z.o.trans ((A.o.trans (D.o.mono A.o.size)).mono z.o.size));have c5:=I.o.str o.o r.o (yS _ _);go_wp2_with fail;go_ret;exact⟨rfl,F.o⟩
 have P:=za (u.o _ _ _ _ O);rw[R] at P;obtain⟨L,U⟩:∃L,Nr (MW (OE i m n))=L:=⟨_,rfl⟩;rw[U] at E P s t;have o:=za s;have r:=za t;clear y Q u J N O R s t U hg;go_enter func3,ntmps3
 go_upto_region 10 with (first
  | (go_at_call 5;revert j;intro j;refine (E.o _ j.o).mono ?_;rintro e w5 ⟨v5,a0,rfl,C,_,a⟩;have I:=za C;have D:=za a;have F:=za (j.o.trans (a.mono j.o.size));clear C a)
  | (go_at_call 5;revert d;intro d;refine (P.o _ d.o).mono ?_;rintro e w4 ⟨v4,B4,rfl,V,_,a⟩;have aA:=za V;have A:=za a;have j:=za (d.o.trans (a.mono d.o.size));clear V a)
  | (go_at_call 6;revert c;intro c;refine (X.o _ c.o).mono ?_;rintro e w3 ⟨rfl,a⟩;have z:=za a;have d:=za (c.o.trans (a.mono c.o.size));clear a)
  | (go_at_call 5;revert b;intro b;refine (E.o _ b.o).mono ?_;rintro e w2 ⟨v2,B2,rfl,B,_,a⟩;have H:=za B;have c:=za (b.o.trans (a.mono b.o.size));clear B a)
  | (go_at_call 4;refine G.o.mono ?_;rintro e w1 ⟨rfl,a⟩;have b:=za a))
 have c2:=H.o.str o.o r.o (z.o.trans ((A.o.trans (D.o.mono A.o.size)).mono z.o.size));have c4:=aA.o.str o.o r.o D.o;have c5:=I.o.str o.o r.o (yS _ _);go_wp2_with fail;go_ret;exact⟨rfl,F.o⟩
end
end Go.Proofs.YtcnelakggnfnhaaGreatDoor
