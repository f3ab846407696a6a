/- Part 19 of the proof: CmpC OfsA CmpD. -/
import Derived.Test.YtbicmofihhjgbaaGreatDoorK17
set_option maxRecDepth 100000
set_option maxHeartbeats 8000000
namespace Go.Proofs.YtbicmofihhjgbaaGreatDoor
open Go.Proofs.Tryz
open Go.RowKit
section
variable {K:Cd} {B N base cb kb qb wb z:Nat} {o:Obj} {c:Sc} {ev lv nv:Value} {W W' w:World}
attribute [local go_sem ↓] Go.wp_at_zero Go.wp_at_succ
def whM (c:Sc)(base:Nat):Nat->Nat×Nat->List (Nat×Int)
 | 0,_=>[(1,((base+c.nd.vars.length:Nat):Int))]
 | f+1,k=>if k.2=0 then [(1,((base+c.nd.vars.length:Nat):Int))] else whM c base f (c.up k)++(1,((base+k.1:Nat):Int))::((if k.2=2 then [(8,0)] else [])++[(9,0)])
def zfT (c:Sc):Nat->Nat×Nat->Prop
 | 0,k=>k.2=0
 | f+1,k=>k.2=0∨(k.1<=1000000/\zfT c f (c.up k))
theorem znn (c:Sc)(base f:Nat)(k:Nat×Nat)(h:k.2=0):whM c base f k=[(1,((base+c.nd.vars.length:Nat):Int))]:=by
 cases f with
 | zero=>rfl
 | succ f=>unfold whM;rw[if_pos h]
structure WX (N B wb kb qb cb base:Nat) (c:Sc) (ev nv lv:Value) (w:World) (z:Nat) (o:Obj) (K:Cd) (W:World):Prop where
 wi:WI N B wb kb qb cb base c ev nv lv K W
 ft:FT (KT kb) w W
 bx:W.heap[z]?=some o
 nz:¬KT kb W z
theorem WX.step {K':Cd}(h:WX N B wb kb qb cb base c ev nv lv w z o K W)(hk:KW B wb kb K' W')(hf:FT (KT kb) W W'):WX N B wb kb qb cb base c ev nv lv w z o K' W' :=
 ⟨h.wi.ft hk hf,h.ft.trans hf,(hf.fr.block _ (ze h.bx) h.nz).trans h.bx,hf.not (ze h.bx) h.nz⟩
theorem WX.keep (h:WX N B wb kb qb cb base c ev nv lv w z o K W)(hB:xB W W'):WX N B wb kb qb cb base c ev nv lv w z o K W' :=
 h.step (h.wi.kw.keep hB) (h.wi.kw.ft hB)
theorem WX.add (h:WX N B wb kb qb cb base c ev nv lv w z o K W)(op:Nat)(x:Int)(hr:K.row.length<=1000000) :
 xK 56 #[xP wb,.int .u8 (op:Int),xI x] W (λe w'=>e=.returned (.tuple #[])/\WX N B wb kb qb cb base c ev nv lv w z o (K.add op x) w'):=by
 refine (zc7 B wb kb K op x W h.wi.kw hr).mono ?_;rintro e w' ⟨h1,h2,h3⟩;exact⟨h1,h.step h2 h3⟩
theorem WX.new (h:WI N B wb kb qb cb base c ev nv lv K w)(o:Obj):WX N B wb kb qb cb base c ev nv lv w w.heap.size o K (w.alloc o) :=
 ⟨h.keep (zq w o),h.kw.ft (zq w o),zc w o,λe=>by have:=h.kw.lt _ (h.kw.tk (zq w o) _ e);omega⟩
theorem zgx (hb:base<=1000000) :
 ∀(f:Nat) (k:Nat×Nat) (K:Cd) (w:World),zfT c f k->WI N B wb kb qb cb base c ev nv lv K w->K.row.length+(whM c base f k).length<=1000000 ->
  xK 108 #[xP wb,xP qb,ckV k] w (λe w'=>e=.returned (.tuple #[])/\KW B wb kb (K.adds (whM c base f k)) w'/\FT (KT kb) w w'):=by
 have zero:∀(f:Nat) (k:Nat×Nat) (K:Cd) (w:World),k.2=0->WI N B wb kb qb cb base c ev nv lv K w->K.row.length+(whM c base f k).length<=1000000 ->
  xK 108 #[xP wb,xP qb,ckV k] w (λe w'=>e=.returned (.tuple #[])/\KW B wb kb (K.adds (whM c base f k)) w'/\FT (KT kb) w w'):=by
  intro f k K w hk hW hr;rw[znn c base f k hk] at hr ⊢;have HW0:=za (WX.new hW (.cells #[xI (k.1:Nat),xI (k.2:Nat)] 198));have Hk:=za hk;obtain⟨Kf,hKf⟩:∃Kf,K.adds [(1,((base+c.nd.vars.length:Nat):Int))]=Kf:=⟨_,rfl⟩;rw[hKf];have HKf:=za hKf;clear hW hk hKf;unfold ckV;go_enter func108,ntmps108;go_upto_region 1 with fail;refine zn (λW=>WX N B wb kb qb cb base c ev nv lv w w.heap.size (.cells #[xI (k.1:Nat),xI (k.2:Nat)] 198) K W) HW0.o ?_;intro W hX;obtain⟨b0,b1,bf,bz⟩:=zp hX.bx;have HX:=za hX;have hk':(k.2:Int)=0:=by have:=Hk.o;omega
  clear hX HW0
  go_wp2_with (first
   | (go_at_call 56;refine (HX.o.add 1 ((base+c.nd.vars.length:Nat):Int) (by simp at hr;omega)).mono ?_;rintro e w2 ⟨rfl,hX2⟩;have HX2:=za hX2;clear hX2)
   | (go_at_call 101;refine (zhw _ HX.o.wi.qi hb).mono ?_;rintro e w' ⟨rfl,rfl⟩))
  first|go_end0|refine bodyPost_ret (results_none rfl _ _ _) rfl ?_
  rw[<- HKf.o];exact⟨rfl,HX2.o.wi.kw,HX2.o.ft⟩
 intro f;induction f with
 | zero => intro k K w hk hW hr;exact zero 0 k K w hk hW hr
 | succ f ih =>
   intro k K w hk hW hr;by_cases hk0:k.2=0
   . exact zero (f+1) k K w hk0 hW hr
   . have hch:k.1<=1000000/\zfT c f (c.up k):=hk.resolve_left hk0;have hL:whM c base (f+1) k=whM c base f (c.up k)++(1,((base+k.1:Nat):Int))::((if k.2=2 then [(8,0)] else [])++[(9,0)]):=(by rw[whM,if_neg hk0]);rw[hL] at hr ⊢;rw[List.length_append,List.length_cons,List.length_append,List.length_singleton] at hr;obtain⟨l,hl⟩:∃l,whM c base f (c.up k)=l:=⟨_,rfl⟩;rw[hl] at hr ⊢;obtain⟨Kf,hKf⟩:∃Kf,K.adds (l++(1,((base+k.1:Nat):Int))::((if k.2=2 then [(8,0)] else [])++[(9,0)]))=Kf:=⟨_,rfl⟩;rw[hKf];have HKf:=za hKf;clear hKf;have Hih:=za ih;have HW0:=za (WX.new hW (.cells #[xI (k.1:Nat),xI (k.2:Nat)] 198));have hk0':¬(k.2:Int)=0:=(by omega);obtain⟨hk1,hch2⟩:=hch;have Hch:=za hch2;have Hl:=za hl;clear hW hk hk0 hch2 hL ih hl;unfold ckV;go_enter func108,ntmps108;go_upto_region 3 with fail;refine zn (λW=>WX N B wb kb qb cb base c ev nv lv w w.heap.size (.cells #[xI (k.1:Nat),xI (k.2:Nat)] 198) K W) HW0.o ?_;intro W hX;obtain⟨b0,b1,bf,bz⟩:=zp hX.bx;obtain⟨m0,m1,m2,m3,m4,mf,mz⟩:=zcf hX.wi.qi.blk;have hlk:(Instr.lookup 123 (.map (some cb)) (.agg #[xI (k.1:Nat),xI (k.2:Nat)]) false).run prog W.drew=.ok (.agg #[xI ((c.up k).1:Nat),xI ((c.up k).2:Nat)]) W.drew:=zkW (w:=W.drew) (hX.wi.qi.ck.of' (w':=W.drew) rfl) k;have HR:=za (Hih.o (c.up k) K W.drew Hch.o (hX.wi.keep (zo (Below.refl _ _))) (by rw[Hl.o];omega));rw[Hl.o] at HR;unfold ckV at HR;have HX:=za hX;have hnz:=hX.nz;have hnq:=hX.wi.nq;clear hX m0 m1 m3 m4
     go_region_held3 (λw'=>w'.cell? (xD qb 2)=some (.map (some cb))/\w'.cell? (xD w.heap.size 0)=some (xI (k.1:Nat))/\w'.cell? (xD w.heap.size 1)=some (xI (k.2:Nat)))
      (first|(refine⟨?_,?_,?_⟩ <;> repeat (first|with_reducible exact m2|with_reducible exact b0|with_reducible exact b1|with_reducible refine zg ?_|with_reducible refine FT.cell HF1.o ?_ (by assumption)))|go_keep)
      (first
        | (go_at_call 108;refine HR.o.mono ?_;rintro e w1 ⟨rfl,hK1,hF1⟩;have hF1':FT (KT kb) W w1:=⟨hF1.fr.undrew,hF1.tk⟩;have HX1:=za (HX.o.step hK1 hF1');have HF1:=za hF1';clear hK1 hF1 hF1'))
     obtain⟨c0,c1,cf,cz⟩:=zp HX1.o.bx;clear b0 b1 bf bz m2 mf mz HR HF1 hlk hnz hnq
     go_upto_region 5 with (first
      | (go_at_call 56;refine (HX1.o.add 1 ((base+k.1:Nat):Int) (by rw[Cd.adds_len];omega)).mono ?_;rintro e w2 ⟨rfl,hX2⟩;have HX2:=za hX2;obtain⟨d0,d1,df,dz⟩:=zp hX2.bx;clear hX2)
      | (go_at_call 161;refine (zeI k.1 _ HX1.o.wi.qi hb hk1).mono ?_;rintro e w' ⟨rfl,rfl⟩))
     clear c0 c1 cf cz;by_cases h2:k.2=2
     . have h2':(k.2:Int)=2:=(by omega);rw[if_pos h2] at hr;have HE:Hid ((((K.adds l).add 1 ((base+k.1:Nat):Int)).add 8 0).add 9 0=K.adds (l++(1,((base+k.1:Nat):Int))::((if k.2=2 then [(8,0)] else [])++[(9,0)]))):=(by unfold Hid;rw[if_pos h2];simp[Cd.add,Cd.adds]);clear h2
       go_wp2_with (first
        | (go_at_call 56;refine (HX3.o.add 9 0 (by simp[Cd.add,Cd.adds];omega)).mono ?_;rintro e w4 ⟨rfl,hX4⟩;have HX4:=za hX4;clear hX4)
        | (go_at_call 56;refine (HX2.o.add 8 0 (by simp[Cd.add,Cd.adds];omega)).mono ?_;rintro e w3 ⟨rfl,hX3⟩;have HX3:=za hX3;clear hX3))
       first|go_end0|refine bodyPost_ret (results_none rfl _ _ _) rfl ?_
       rw[<- HKf.o,<- HE.o];exact⟨rfl,HX4.o.wi.kw,HX4.o.ft⟩
     . have h2':¬(k.2:Int)=2:=(by omega);rw[if_neg h2] at hr;have HE:Hid (((K.adds l).add 1 ((base+k.1:Nat):Int)).add 9 0=K.adds (l++(1,((base+k.1:Nat):Int))::((if k.2=2 then [(8,0)] else [])++[(9,0)]))):=(by unfold Hid;rw[if_neg h2];simp[Cd.add,Cd.adds]);clear h2
       go_wp2_with (first
        | (go_at_call 56;refine (HX2.o.add 9 0 (by simp[Cd.add,Cd.adds];omega)).mono ?_;rintro e w4 ⟨rfl,hX4⟩;have HX4:=za hX4;clear hX4))
       first|go_end0|refine bodyPost_ret (results_none rfl _ _ _) rfl ?_
       rw[<- HKf.o,<- HE.o];exact⟨rfl,HX4.o.wi.kw,HX4.o.ft⟩
end
section
variable {xs:List Value} {base cp n size:Nat} {a:Option Addr} {e:TypeId} {v:Value} {w:World}
def zbj (w:World)(base:Nat)(e:TypeId)(size:Nat)(v:Value)(n:Nat)(xs:List Value):Prop :=
 xs.length=n*size/\((v=.slice none 0 0/\n=0) ∨
  ∃g o cap cur,v=.slice (some (xD g o)) n cap/\base<=g/\w.heap[g]?=some (.cells cur e (0,0))/\n<=cap/\cap<=maxLen/\o+cap*size<=cur.size/\(cur.toList.drop o).take (n*size)=xs)
theorem zia (h:w.ownsRow base e size v n xs):zbj w base e size v n xs:=by
 refine⟨h.1,?_⟩;rcases h.2 with h|⟨g,cap,cur,h1,h2,h3,h4,h5,h6,h7⟩
 . exact Or.inl h
 . exact Or.inr ⟨g,0,cap,cur,h1,h2,h3,h4,h5,by omega,by simpa using h7⟩
theorem zij (w:World)(base:Nat)(e:TypeId)(size:Nat):zbj w base e size (.slice none 0 0) 0 []:=⟨by simp,Or.inl ⟨rfl,rfl⟩⟩
theorem zbj.lt (h:zbj w base e size v n xs):∀k,v.ownBlock=some k->base<=k/\k<w.heap.size:=by
 intro k hk;rcases h.2 with ⟨rfl,_⟩|⟨g,o,cap,cur,rfl,h2,h3,_⟩
 . simp[Value.ownBlock] at hk
 . simp[Value.ownBlock] at hk;subst hk;exact⟨h2,ze h3⟩
theorem zbM {w':World}(h:zbj w base e size v n xs)(hk:∀k,base<=k->k<w.heap.size->v.ownBlock=some k->w'.heap[k]?=w.heap[k]?):zbj w' base e size v n xs:=by
 refine⟨h.1,?_⟩;rcases h.2 with h1|⟨g,o,cap,cur,rfl,h2,h3,h4⟩
 . exact Or.inl h1
 . exact Or.inr ⟨g,o,cap,cur,rfl,h2,(hk g h2 (ze h3) rfl).trans h3,h4⟩
theorem zeR (h:zbj w base e size v n xs):∃x cp,v=.slice x n cp:=by
 rcases h.2 with ⟨h1,h2⟩|⟨g,o,cap,cur,rfl,_⟩
 . exact⟨none,0,by rw[h1,h2]⟩
 . exact⟨_,cap,rfl⟩
theorem zdb (h:zbj w base e size (.slice a n cp) n xs){j:Nat}{u:Value}(hj:xs[j]?=some u):∃g o,a=some (xD g o)/\w.cell? (xD g (o+j))=some u:=by
 have hjl:=(List.getElem?_eq_some_iff.1 hj).1;rcases h.2 with ⟨h1,h2⟩|⟨g,o,cap,cur,h1,h2,h3,h4,h5,h6,h7⟩
 . have:=h.1;rw[h2] at this;omega
 . cases h1;refine⟨g,o,rfl,?_⟩;have:cur[o+j]?=some u:=by
    rw[<- h7,List.getElem?_take] at hj;split at hj
    . rw[List.getElem?_drop] at hj;simpa using hj
    . cases hj
   simp[World.cell?,h3,this]
theorem zle {P:Program}{t:TypeId}(ht:P.underlying t=some (.slice e))(hsz:∀w,(sizeOf e).run P w=.ok size w)(h:zbj w base e size (.slice a (n+1) cp) (n+1) xs) :
 ∃a' cp',(∀W,(Instr.slice t (.slice a (n+1) cp) (some (xI 1)) none none).run P W=.ok (.slice a' n cp') W)/\zbj w base e size (.slice a' n cp') n (xs.drop size)/\(∀k,(Value.slice a' n cp').ownBlock=some k->(Value.slice a (n+1) cp).ownBlock=some k):=by
 rcases h.2 with ⟨h1,h2⟩|⟨g,o,cap,cur,h1,h2,h3,h4,h5,h6,h7⟩
 . omega
 . cases h1;have i2:(1:Int)<=(n:Int)+1:=by omega
   have hx:(xs.drop size).length=n*size:=(by rw[List.length_drop,h.1,Nat.add_mul];omega);by_cases hc:cp=1
   . subst hc;have hn:n=0:=(by omega);subst hn;refine⟨some (xD g o),0,λW=>by simp[Instr.slice,Instr.sliceBounds,Instr.sliceBound,run_underlying ht,hsz,asIntOf],⟨hx,Or.inr ⟨g,o,0,cur,rfl,h2,h3,by omega,by omega,by omega,?_⟩⟩,λk hk=>hk⟩;have:(xs.drop size).length=0:=(by omega);rw[List.eq_nil_of_length_eq_zero this];simp
   . refine⟨some (xD g (o+size)),cp-1,λW=>by simp[Instr.slice,Instr.sliceBounds,Instr.sliceBound,run_underlying ht,hsz,asIntOf,hc,Addr.add_lit,i2],⟨hx,Or.inr ⟨g,o+size,cp-1,cur,rfl,h2,h3,by omega,by omega,?_,?_⟩⟩,λk hk=>hk⟩
     . have:(cp-1)*size+size=cp*size:=by rw[<- Nat.succ_mul,show (cp-1).succ=cp by omega]
       omega
     . rw[<- h7,List.drop_take,List.drop_drop];congr 1;rw[Nat.add_mul];omega
section
variable {P:Program} (w:World)
theorem zhI (t ty e:TypeId)(i:TypeInfo)(ht:P.underlying t=some (.slice e))(hi:P.info? e=some i)
 (g o sLen sCap:Nat) (cur:Array Value) (hg:xH w g cur e)
 (a:Addr) (m c:Nat) (news:List Value) (hl:news.length=m*i.size) (hnews:∀j u,news[j]?=some u->w.cell? (a.add j)=some u) (h1:∀u∈news,u.oneCell'=true)
 (hroom:sLen+m<=sCap) (hfit:o+sLen*i.size+news.length<=cur.size) :
 (Builtin.append_ #[t,t] ty #[.slice (some (xD g o)) sLen sCap,.slice (some a) m c]).run P w =
   .ok (.slice (some (xD g o)) (sLen+m) sCap) (w.setRow g (cur.toList.take (o+sLen*i.size)++news++cur.toList.drop (o+sLen*i.size+news.length)).toArray):=by
 have hf:=run_firstCells_some (P:=P) w i.size m a m c news hl hnews;have hst:=run_storeCells_at P g (o+sLen*i.size) e news 0 cur w hg (by simpa using hfit) h1;simp only[Nat.add_zero] at hst;simp[Builtin.append_,run_underlying ht,sizeOf,typeInfo,hi,Builtin.lenOf,hroom,hf,Addr.add_lit,hst]
theorem zmL (base:Nat)(t ty e:TypeId)(i:TypeInfo)(z:Value)(size bytes:Nat)(ht:P.underlying t=some (.slice e))(hi:P.info? e=some i)(hz:i.zero=some z)
 (hsize:i.size=size) (hby:i.bytes=bytes) (hzs:z.cells.size=size) (hsz:0<size)
 (v:Value) (n:Nat) (xs:List Value) (hown:zbj w base e size v n xs)
 (a:Addr) (m c:Nat) (news:List Value) (hl:news.length=m*size) (hnews:∀j u,news[j]?=some u->w.cell? (a.add j)=some u) (h1:∀u∈news,u.oneCell'=true)
 (h63:n+m<=maxLen) (hbytes:(n+m)*bytes<=140737488355328) (hbase:base<=w.heap.size) :
 ∃v' w',(Builtin.append_ #[t,t] ty #[v,.slice (some a) m c]).run P w=.ok v' w'/\zbj w' base e size v' (n+m) (xs++news)/\w.grownBy w' v.ownBlock /\
  ∀k,v'.ownBlock=some k->v.ownBlock=some k∨w.heap.size<=k:=by
 rcases hown.2 with ⟨rfl,rfl⟩|⟨g,o,cap,cur,rfl,hbg,hg,hnc,hcm,hcs,htake⟩
 . have hx:xs=[]:=List.eq_nil_of_length_eq_zero (by simpa using hown.1);subst hx;obtain⟨v',w',hr,h2,h3,h4⟩:=zha (P:=P) w base t ty e i z size bytes ht hi hz hsize hby hzs hsz (.slice none 0 0) 0 [] (World.ownsRow_nil w base e size) a m c news hl hnews h1 h63 hbytes hbase;exact⟨v',w',hr,zia h2,h3,h4⟩
 . have hlen:(xs++news).length=(n+m)*size:=by rw[List.length_append,hown.1,hl,Nat.add_mul]
   by_cases hroom:n+m<=cap
   . subst hsize;have hmul:(n+m)*i.size<=cap*i.size:=Nat.mul_le_mul_right _ hroom;have hfit:o+n*i.size+news.length<=cur.size:=(by rw[hl];rw[Nat.add_mul] at hmul;omega);have hr:=zhI (P:=P) w t ty e i ht hi g o n cap cur hg a m c news hl hnews h1 hroom hfit;refine⟨_,_,hr,⟨hlen,Or.inr ⟨g,o,cap,_,rfl,hbg,setRow_heap w g cur _ e _ hg,hroom,hcm,?_,?_⟩⟩,⟨rfl,rfl,rfl,by simp,λk _ hk=>setRow_other w g k _ (λe=>hk (by simp[Value.ownBlock,e]))⟩,λk hk=>Or.inl hk⟩
     . simp only[List.size_toArray,List.length_append,List.length_take,List.length_drop,Array.length_toList];omega
     . have e1:(cur.toList.take (o+n*i.size)).drop o=xs:=(by rw[List.drop_take,Nat.add_sub_cancel_left];exact htake);have hol:o<=(cur.toList.take (o+n*i.size)).length:=by rw[List.length_take,Array.length_toList];omega
       show (List.drop o (cur.toList.take (o+n*i.size)++news++_)).take _=_;rw[List.append_assoc,List.drop_append_of_le_length hol,e1,<- List.append_assoc,<- hlen];exact List.take_left
   . have holds:∀j u,xs[j]?=some u->w.cell? (((xD g o):Addr).add j)=some u:=(by intro j u hj;obtain⟨g',o',e1,e2⟩:=zdb hown hj;cases e1;rw[Addr.add_lit];exact e2);obtain⟨v',w',hr,h2,h3⟩:=run_append_arg_grows (P:=P) w t ty e i z size bytes ht hi hz hsize hby hzs hsz (xD g o) n cap xs hown.1 holds a m c news hl hnews (by omega) h63 hbytes;exact⟨v',w',hr,zia (zR h2 hbase),⟨h3.os,h3.tape,h3.output,h3.size,λk hk _=>h3.block k hk (by simp)⟩,λk hk=>Or.inr (h2.lt k hk).1⟩
theorem ze4 {ops:Array Oper}{o:Oper}{a:Act}{K:Act->World->Prop}{Q:Exit->Act->World->Prop}{E:Prop}
 (hg:o.guard=none) (s x:Operand) (t:TypeId) (ho:o.op=.call { callee:=.builtin .append,args:=#[s,x],argTypes:=#[t,t] })
 (base:Nat) (e:TypeId) (i:TypeInfo) (z:Value) (size bytes:Nat) (ht:P.underlying t=some (.slice e)) (hi:P.info? e=some i) (hz:i.zero=some z)
 (hsize:i.size=size) (hby:i.bytes=bytes) (hzs:z.cells.size=size) (hsz:0<size)
 (v:Value) (n:Nat) (xs:List Value) (hs:a.eval s=v) (hown:zbj w base e size v n xs)
 (ad:Addr) (m c:Nat) (news:List Value) (hx:a.eval x=.slice (some ad) m c) (hl:news.length=m*size) (hnews:∀j u,news[j]?=some u->w.cell? (ad.add j)=some u) (h1:∀u∈news,u.oneCell'=true)
 (h63:n+m<=maxLen) (hbytes:(n+m)*bytes<=140737488355328) (hbase:base<=w.heap.size)
 (h:∀v' w',zbj w' base e size v' (n+m) (xs++news)->w.grownBy w' v.ownBlock->(∀k,v'.ownBlock=some k->v.ownBlock=some k∨w.heap.size<=k)->K (a.put o.dst v') w') :
 if Region.wanted o (yielded ops a.tmps)=true then Oper.wp P o a w K Q else E:=by
 have hw:Region.wanted o (yielded ops a.tmps)=true:=by simp[Region.wanted,hg]
 rw[if_pos hw];obtain⟨v',w',hr,h2,h3,h4⟩:=zmL (P:=P) w base t o.type e i z size bytes ht hi hz hsize hby hzs hsz v n xs hown ad m c news hl hnews h1 h63 hbytes hbase;unfold Oper.wp execOp;simp only[ho,resolve,invoke,builtin,Sem.run_bind,Sem.run_pure,Result.andThen_ok,List.map_toArray,List.map_cons,List.map_nil,hs,hx,hr];exact h v' w' h2 h3 h4
end
end
section
variable {K:Cd} {B N base cb kb qb wb:Nat} {X:Obj} {c:Sc} {ev lv nv v':Value} {w w' w9:World}
attribute [local go_sem ↓] Go.wp_at_zero Go.wp_at_succ
theorem Tryz.infoMem:(prog.info? 206).map (λi=>(i.zero,i.size,i.bytes))=some (some (.agg #[xI 0,.pointer none,xI 0,xI 0]),4,32):=by kernel_rfl
def Cd.cell (K:Cd)(x:Int):Cd:={ K with cells:=K.cells++[x] }
theorem zmg (l:List Int)(x:Int):zK (l++[x])=zK l++[xI x]:=by simp[zK]
theorem KI.celled {bv cv rv:Value}{x:Int}(h:KI B wb kb bv cv rv K w)(hF:Fr (λk=>cv.ownBlock=some k) (w.alloc X) w9)
 (hown:w9.ownsRow B 2 1 v' (K.cells.length+1) (zK K.cells++[xI x])) (hnew:∀k,v'.ownBlock=some k->cv.ownBlock=some k∨w.heap.size+1<=k) :
 KW B wb kb (K.cell x) (w9.setCell (xD kb 3) v')/\FT (KT kb) w (w9.setCell (xD kb 3) v'):=by
 have hz:=h.hB;have hwb:=h.hwb;have hkb:=h.hkb;have hs:(w.alloc X).heap.size=w.heap.size+1:=by simp
 have hz9:=hF.size;have hb:∀k,k<w.heap.size->¬cv.ownBlock=some k->w9.heap[k]?=w.heap[k]?:=λk hk hn=>(hF.block k (by omega) hn).trans (Below.heap_alloc _ _ _ hk);have hb':∀k,k<w.heap.size->¬k=kb->¬cv.ownBlock=some k->(w9.setCell (xD kb 3) v').heap[k]?=w.heap[k]?:=λk hk h1 h2=>zr h1 (hb k hk h2);have hnr:∀k,k<B->¬cv.ownBlock=some k:=λk hk e=>by have:=(h.cown.lt _ e).1;omega
 have hI:KI B wb kb bv v' rv (K.cell x) (w9.setCell (xD kb 3) v'):=by
  refine⟨(hb' wb (by omega) h.dk (hnr wb hwb)).trans h.wr,?_,zi h.bown (λk h1 h2 e=>hb' k h2 (by omega) (h.d1 k e).1),?_,zi h.rown (λk h1 h2 e=>hb' k h2 (by omega) (λe'=>h.d2 k e' e)),hwb,hkb,h.dk,λk e=>⟨λe'=>?_,(h.d1 k e).2⟩,λk e e'=>?_,?_⟩
  . exact zh _ _ _ _ ((hb kb (by omega) (hnr kb hkb)).trans h.blk)
  . have:=zi hown (w':=w9.setCell (xD kb 3) v') (λk h1 h2 _=>zr (by omega) rfl);rw[<- zmg] at this
    show World.ownsRow _ B 2 1 v' (K.cells++[x]).length _;rw[List.length_append];exact this
  . rcases hnew k e' with e2|e2
    . exact (h.d1 k e).1 e2
    . have:=(h.bown.lt _ e).2;omega
  . rcases hnew k e with e2|e2
    . exact h.d2 k e2 e'
    . have:=(h.rown.lt _ e').2;omega
  . have:(w9.setCell (xD kb 3) v').heap.size=w9.heap.size:=by simp
    omega
 refine⟨⟨bv,v',rv,hI⟩,⟨hF.os,hF.tape,hF.output,?_,λk hk hn=>?_⟩,λk hk=>?_⟩
 . have:(w9.setCell (xD kb 3) v').heap.size=w9.heap.size:=by simp
   omega
 . exact hb' k hk (λe=>hn ((h.kt k).2 (Or.inl e))) (λe=>hn ((h.kt k).2 (Or.inr (Or.inr (Or.inl e)))))
 . rcases (hI.kt k).1 hk with e|e|e|e
   . exact Or.inl ((h.kt k).2 (Or.inl e))
   . exact Or.inl ((h.kt k).2 (Or.inr (Or.inl e)))
   . rcases hnew k e with e2|e2
     . exact Or.inl ((h.kt k).2 (Or.inr (Or.inr (Or.inl e2))))
     . exact Or.inr (by omega)
   . exact Or.inl ((h.kt k).2 (Or.inr (Or.inr (Or.inr e))))
structure Lt where
 cell:Nat
 next:Tm
 clock:Nat×Nat
def zeY (w:World)(N:Nat):List Lt->List Value->Prop
 | [],xs=>xs=[]
 | l::ls,xs=>∃v ys,xs=(xI (l.cell:Int))::v::(xI (l.clock.1:Nat))::(xI (l.clock.2:Nat))::ys/\TT w N l.next v/\zeY w N ls ys
theorem zeY.old (ho:Old N w w'):∀{ls:List Lt} {xs:List Value},zeY w N ls xs->zeY w' N ls xs:=by
 intro ls;induction ls with
 | nil=>intro xs h;exact h
 | cons l ls ih => rintro xs ⟨v,ys,h1,h2,h3⟩;exact⟨v,ys,h1,h2.old ho,ih h3⟩
theorem zeY.snoc (l:Lt)(v:Value)(hv:TT w N l.next v):∀{ls:List Lt} {xs:List Value},zeY w N ls xs->zeY w N (ls++[l]) (xs++[xI (l.cell:Int),v,xI (l.clock.1:Nat),xI (l.clock.2:Nat)]):=by
 intro ls;induction ls with
 | nil=>intro xs h;cases h;exact⟨v,[],rfl,hv,rfl⟩
 | cons l' ls ih => rintro xs ⟨v',ys,h1,h2,h3⟩;subst h1;exact⟨v',_,rfl,h2,ih h3⟩
def CT (kb qb:Nat)(w:World)(k:Nat):Prop:=KT kb w k∨k=qb∨zgV w qb 4 k
structure WL (N B wb kb qb cb base:Nat) (c:Sc) (ev nv lv:Value) (K:Cd) (ls:List Lt) (w:World):Prop where
 wi:WI N B wb kb qb cb base c ev nv lv K w
 row:∃xs,zbj w B 206 4 lv ls.length xs/\zeY w N ls xs
 dl:∀k,lv.ownBlock=some k->¬KT kb w k/\¬k=qb/\¬k=cb
 dq:¬qb=cb
 dw:¬qb=wb
 hNq:N<=qb
theorem WL.ct {ls:List Lt}(h:WL N B wb kb qb cb base c ev nv lv K ls w)(k:Nat):CT kb qb w k↔KT kb w k∨k=qb∨lv.ownBlock=some k:=by
 obtain⟨m0,m1,m2,m3,m4,mf,mz⟩:=zcf h.wi.qi.blk;unfold CT;constructor
 . rintro (e|e|⟨v,e1,e2⟩)
   . exact Or.inl e
   . exact Or.inr (Or.inl e)
   . rw[m4] at e1;cases e1;exact Or.inr (Or.inr e2)
 . rintro (e|e|e)
   . exact Or.inl e
   . exact Or.inr (Or.inl e)
   . exact Or.inr (Or.inr ⟨_,m4,e⟩)
theorem WL.keep {ls:List Lt}(h:WL N B wb kb qb cb base c ev nv lv K ls w)(hB:xB w w'):WL N B wb kb qb cb base c ev nv lv K ls w':=by obtain⟨xs,h1,h2⟩:=h.row;exact⟨h.wi.keep hB,⟨xs,zbM h1 (λk _ hk _=>hB.block k hk),h2.old (zm hB h.wi.qi.hN)⟩,λk e=>⟨λe'=>(h.dl k e).1 (h.wi.kw.tk hB _ e'),(h.dl k e).2⟩,h.dq,h.dw,h.hNq⟩
theorem WL.tk {ls:List Lt}(h:WL N B wb kb qb cb base c ev nv lv K ls w)(hB:xB w w'):∀k,CT kb qb w' k->CT kb qb w k:=by
 intro k hk;rcases ((h.keep hB).ct k).1 hk with e|e|e
 . exact (h.ct k).2 (Or.inl (h.wi.kw.tk hB _ e))
 . exact (h.ct k).2 (Or.inr (Or.inl e))
 . exact (h.ct k).2 (Or.inr (Or.inr e))
theorem WL.lt {ls:List Lt}(h:WL N B wb kb qb cb base c ev nv lv K ls w):∀k,CT kb qb w k->N<=k/\k<w.heap.size/\¬k=cb:=by
 intro k hk;obtain⟨xs,h1,_⟩:=h.row;have hb:=h.wi.kw.kb;have hn:=h.wi.hNk;rcases (h.ct k).1 hk with e|e|e
 . exact⟨h.wi.ktN k e,h.wi.kw.lt k e,λe'=>h.wi.nc (e'▸e)⟩
 . subst e;exact⟨h.hNq,ze h.wi.qi.blk,h.dq⟩
 . have:=h1.lt k e;exact⟨by omega,this.2,(h.dl k e).2.2⟩
theorem WL.ftk {K':Cd}{ls:List Lt}(h:WL N B wb kb qb cb base c ev nv lv K ls w)(hk:KW B wb kb K' w')(hf:FT (KT kb) w w'):WL N B wb kb qb cb base c ev nv lv K' ls w'/\FT (CT kb qb) w w':=by
 obtain⟨xs,h1,h2⟩:=h.row;have hW:WL N B wb kb qb cb base c ev nv lv K' ls w':=⟨h.wi.ft hk hf,⟨xs,zbM h1 (λk _ hk e=>hf.fr.block k hk (h.dl k e).1),h2.old (hf.old h.wi.qi.hN h.wi.ktN)⟩,λk e=>⟨hf.not (h1.lt k e).2 (h.dl k e).1,(h.dl k e).2⟩,h.dq,h.dw,h.hNq⟩;refine⟨hW,hf.fr.mono (λk _ e=>Or.inl e),λk hk=>?_⟩;rcases (hW.ct k).1 hk with e|e|e
 . exact (hf.tk k e).imp (λe=>Or.inl e) id
 . exact Or.inl (Or.inr (Or.inl e))
 . exact Or.inl ((h.ct k).2 (Or.inr (Or.inr e)))
theorem WL.put {ls:List Lt}(l:Lt)(v:Value)(h:WL N B wb kb qb cb base c ev nv lv K ls w)(hv:TT w N l.next v)(hF:Fr (λk=>lv.ownBlock=some k) (w.alloc X) w9)(xs:List Value)(hxs:zeY w N ls xs)
 (hown:zbj w9 B 206 4 v' (ls.length+1) (xs++[xI (l.cell:Int),v,xI (l.clock.1:Nat),xI (l.clock.2:Nat)])) (hnew:∀k,v'.ownBlock=some k->lv.ownBlock=some k∨w.heap.size+1<=k) :
 WL N B wb kb qb cb base c ev nv v' K (ls++[l]) (w9.setCell (xD qb 4) v')/\FT (CT kb qb) w (w9.setCell (xD qb 4) v'):=by
 obtain⟨_,hr,_⟩:=h.row;have hs:(w.alloc X).heap.size=w.heap.size+1:=by simp
 have hz9:=hF.size;have hsz:(w9.setCell (xD qb 4) v').heap.size=w9.heap.size:=by simp
 have hb:∀k,k<w.heap.size->¬lv.ownBlock=some k->w9.heap[k]?=w.heap[k]?:=λk hk hn=>(hF.block k (by omega) hn).trans (Below.heap_alloc _ _ _ hk);have hb':∀k,k<w.heap.size->¬k=qb->¬lv.ownBlock=some k->(w9.setCell (xD qb 4) v').heap[k]?=w.heap[k]?:=λk hk h1 h2=>zr h1 (hb k hk h2);have hkt:∀k,KT kb w k->¬k=qb/\¬lv.ownBlock=some k:=λk e=>⟨λe'=>h.wi.nq (e'▸e),λe'=>(h.dl k e').1 e⟩;obtain⟨bv,cv,rv,hI⟩:=h.wi.kw;have hqz:=ze h.wi.qi.blk;have hbk:=hI.hkb;have hbw:=hI.hwb;have hkbn:=hkt kb ((hI.kt kb).2 (Or.inl rfl));have hwbl:¬lv.ownBlock=some wb:=λe=>by have:=(hr.lt wb e).1;omega
 have hktb:∀k,k<w.heap.size->KT kb w k->w9.heap[k]?=w.heap[k]?/\(w9.setCell (xD qb 4) v').heap[k]?=w.heap[k]?:=λk hk e=>⟨hb k hk (hkt k e).2,hb' k hk (hkt k e).1 (hkt k e).2⟩;have hnw:(w9.setCell (xD qb 4) v').heap[wb]?=w.heap[wb]?:=hb' wb (by have:=hI.hB;omega) (λe=>h.dw e.symm) hwbl;have hO:Old N w (w9.setCell (xD qb 4) v'):=λk hk=>hb' k (Nat.lt_of_lt_of_le hk h.wi.qi.hN) (by have:=h.hNq;omega) (λe=>by have:=(hr.lt k e).1;have:=h.wi.hNk;omega)
 have hI':KI B wb kb bv cv rv K (w9.setCell (xD qb 4) v') :=
  ⟨hnw.trans hI.wr,(hb' kb (by have:=hI.hB;omega) hkbn.1 hkbn.2).trans hI.blk,zi hI.bown (λk _ hk e=>(hktb k hk ((hI.kt k).2 (Or.inr (Or.inl e)))).2),zi hI.cown (λk _ hk e=>(hktb k hk ((hI.kt k).2 (Or.inr (Or.inr (Or.inl e))))).2),zi hI.rown (λk _ hk e=>(hktb k hk ((hI.kt k).2 (Or.inr (Or.inr (Or.inr e))))).2),hI.hwb,hI.hkb,hI.dk,hI.d1,hI.d2,by have:=hI.hB;omega⟩
 have hktw:∀k,KT kb (w9.setCell (xD qb 4) v') k↔KT kb w k:=λk=>(hI'.kt k).trans (hI.kt k).symm;have hcb:(w9.setCell (xD qb 4) v').heap[cb]?=w.heap[cb]?:=hb' cb h.wi.qi.ck.lt (λe=>h.dq e.symm) (λe=>(h.dl cb e).2.2 rfl);have hqlv:¬lv.ownBlock=some qb:=λe=>(h.dl qb e).2.1 rfl;have hW:WL N B wb kb qb cb base c ev nv v' K (ls++[l]) (w9.setCell (xD qb 4) v'):=by
  refine⟨⟨⟨bv,cv,rv,hI'⟩,⟨zh _ _ _ _ ((hb qb hqz hqlv).trans h.wi.qi.blk),h.wi.qi.sc.old hO,h.wi.qi.ck.of' hcb,by have:=h.wi.qi.hN;omega⟩,λe=>h.wi.nq ((hktw qb).1 e),λe=>h.wi.nc ((hktw cb).1 e),h.wi.hNk⟩,⟨xs++[xI (l.cell:Int),v,xI (l.clock.1:Nat),xI (l.clock.2:Nat)],?_,(hxs.snoc l v hv).old hO⟩,λk e=>?_,h.dq,h.dw,h.hNq⟩
  . rw[List.length_append];refine zbM hown (λk h1 h2 e=>zr (λe'=>?_) rfl);subst e';rcases hnew _ e with e2|e2
    . exact hqlv e2
    . omega
  . rcases hnew k e with e2|e2
    . exact⟨λe'=>(h.dl k e2).1 ((hktw k).1 e'),(h.dl k e2).2⟩
    . exact⟨λe'=>by have:=h.wi.kw.lt k ((hktw k).1 e');omega,by omega,by have:=h.wi.qi.ck.lt;omega⟩
 refine⟨hW,⟨hF.os,hF.tape,hF.output,by omega,λk hk hn=>?_⟩,λk hk=>?_⟩
 . exact hb' k hk (λe=>hn ((h.ct k).2 (Or.inr (Or.inl e)))) (λe=>hn ((h.ct k).2 (Or.inr (Or.inr e))))
 . rcases (hW.ct k).1 hk with e|e|e
   . exact Or.inl ((h.ct k).2 (Or.inl ((hktw k).1 e)))
   . exact Or.inl ((h.ct k).2 (Or.inr (Or.inl e)))
   . rcases hnew k e with e2|e2
     . exact Or.inl ((h.ct k).2 (Or.inr (Or.inr e2)))
     . exact Or.inr (by omega)
end
end Go.Proofs.YtbicmofihhjgbaaGreatDoor
