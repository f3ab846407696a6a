/- Part 23 of the proof: CmpB CmpC OfsA. -/
import Derived.Test.YtedmpgjebafcjaaGreatDoorK21
set_option maxRecDepth 100000
set_option maxHeartbeats 8000000
namespace Go.Proofs.YtedmpgjebafcjaaGreatDoor
section
open Go.RowKit
attribute [local go_sem ↓] Go.wp_at_zero Go.wp_at_succ
def Cd.adds (K:Cd) (l:List (Nat×Int)):Cd:={ K with row:=K.row++l }
theorem Cd.adds_nil (K:Cd):K.adds []=K:=by unfold Cd.adds;rw [List.append_nil]
theorem Cd.adds_len (K:Cd) (l:List (Nat×Int)):(K.adds l).row.length=K.row.length+l.length:=by unfold Cd.adds;simp
structure CqI (N qb cb base:Nat) (c:Sc) (ev nv lv:Value) (w:World):Prop where
 blk:w.heap[qb]?=some (.cells #[ev,nv,.map (some cb),.int .i64 (base:Int),lv] 102 (0,0))
 sc:ScV w N c ev nv
 ck:za7 w c cb
 hN:N<=w.heap.size
structure WI (N B wb kb qb cb base:Nat) (c:Sc) (ev nv lv:Value) (K:Cd) (w:World):Prop where
 kw:KW B wb kb K w
 qi:CqI N qb cb base c ev nv lv w
 nq:¬KT kb w qb
 nc:¬KT kb w cb
 hNk:N<=kb
theorem CqI.keep {N qb cb base:Nat} {c:Sc} {ev nv lv:Value} {w w':World} (h:CqI N qb cb base c ev nv lv w) (hB:Below w.heap.size w w'):CqI N qb cb base c ev nv lv w' :=
 ⟨(hB.block _ (ze h.blk)).trans h.blk,h.sc.old (zm hB h.hN),h.ck.keep hB,Nat.le_trans h.hN hB.size⟩
theorem KW.kb {B wb kb:Nat} {K:Cd} {w:World} (h:KW B wb kb K w):kb<B:=by
 obtain ⟨bv,cv,rv,h⟩:=h
 exact h.hkb
theorem WI.ktN {N B wb kb qb cb base:Nat} {c:Sc} {ev nv lv:Value} {K:Cd} {w:World} (h:WI N B wb kb qb cb base c ev nv lv K w):∀k,KT kb w k->N<=k:=by
 intro k hk
 have h1:=h.hNk
 have h2:=h.kw.kb
 rcases h.kw.ge k hk with e|e <;> omega
theorem WI.keep {N B wb kb qb cb base:Nat} {c:Sc} {ev nv lv:Value} {K:Cd} {w w':World} (h:WI N B wb kb qb cb base c ev nv lv K w) (hB:Below w.heap.size w w'):WI N B wb kb qb cb base c ev nv lv K w' :=
 ⟨h.kw.keep hB,h.qi.keep hB,λe=>h.nq (h.kw.tk hB _ e),λe=>h.nc (h.kw.tk hB _ e),h.hNk⟩
theorem FT.not {T:World->Nat->Prop} {w w':World} (h:FT T w w') {z:Nat} (hz:z<w.heap.size) (hn:¬T w z):¬T w' z:=λe=>(h.tk z e).elim hn (λe=>by omega)
theorem WI.ft {N B wb kb qb cb base:Nat} {c:Sc} {ev nv lv:Value} {K K':Cd} {w w':World} (h:WI N B wb kb qb cb base c ev nv lv K w) (hk:KW B wb kb K' w') (hf:FT (KT kb) w w'):WI N B wb kb qb cb base c ev nv lv K' w':=by
 have hO:Old N w w':=hf.old h.qi.hN h.ktN
 exact ⟨hk,⟨(hf.fr.block _ (ze h.qi.blk) h.nq).trans h.qi.blk,h.qi.sc.old hO,h.qi.ck.of' (hf.fr.block _ h.qi.ck.lt h.nc),Nat.le_trans h.qi.hN hf.fr.size⟩,hf.not (ze h.qi.blk) h.nq,hf.not h.qi.ck.lt h.nc,h.hNk⟩
theorem zeI {N qb cb base:Nat} {c:Sc} {ev nv lv:Value} (i:Nat) (w:World) (h:CqI N qb cb base c ev nv lv w) (hb:base<=1000000) (hi:i<=1000000) :
 Calls Tryz.prog 118 #[.pointer (some ⟨qb,0,none⟩),.int .i64 (i:Int)] w (λe w'=>e=.returned (.int .i64 ((base+i:Nat):Int))/\w=w'):=by
 obtain ⟨m0,m1,m2,m3,m4,mf,mz⟩:=zcf h.blk
 clear h m0 m1 m2 m4
 go_enter Tryz.func118,Tryz.ntmps118
 go_wp2_with fail
 go_ret
 exact ⟨by simp,rfl⟩
theorem zhw {N qb cb base:Nat} {c:Sc} {ev nv lv:Value} (w:World) (h:CqI N qb cb base c ev nv lv w) (hb:base<=1000000) :
 Calls Tryz.prog 68 #[.pointer (some ⟨qb,0,none⟩)] w (λe w'=>e=.returned (.int .i64 ((base+c.nd.vars.length:Nat):Int))/\w=w'):=by
 obtain ⟨nb,vs,qv,xs,rfl,hnt⟩:=h.sc.nd
 obtain ⟨xv,cpv,rfl⟩:=zB hnt.vown
 obtain ⟨n0,n1,n2,n3,n4,n5,nf,nz⟩:=zt hnt.blk
 obtain ⟨m0,m1,m2,m3,m4,mf,mz⟩:=zcf h.blk
 have hfew:=hnt.few
 have HS:=za (zeI c.nd.vars.length w h hb (by omega))
 clear h hnt m0 m2 m3 m4 n0 n1 n3 n4 n5
 go_enter Tryz.func68,Tryz.ntmps68
 go_wp2_with (go_at_call 118;refine HS.out.mono ?_;rintro e w1 ⟨rfl,rfl⟩)
 go_ret
 exact ⟨rfl,rfl⟩
theorem zps {N qb cb base:Nat} {c:Sc} {ev nv lv:Value} (w:World) (h:CqI N qb cb base c ev nv lv w) (hb:base<=1000000) :
 Calls Tryz.prog 67 #[.pointer (some ⟨qb,0,none⟩)] w (λe w'=>e=.returned (.int .i64 ((base+c.nd.vars.length+1:Nat):Int))/\∃n,w'=w.drewN n):=by
 obtain ⟨nb,vs,qv,xs,rfl,hnt⟩:=h.sc.nd
 obtain ⟨xv,cpv,rfl⟩:=zB hnt.vown
 obtain ⟨n0,n1,n2,n3,n4,n5,nf,nz⟩:=zt hnt.blk
 obtain ⟨m0,m1,m2,m3,m4,mf,mz⟩:=zcf h.blk
 have hfew:=hnt.few
 have hw1:wrap64 ((base:Int)+(c.nd.vars.length:Int))=(base:Int)+(c.nd.vars.length:Int):=by unfold wrap64;omega
 have hw2:wrap64 ((base:Int)+(c.nd.vars.length:Int)+1)=(base:Int)+(c.nd.vars.length:Int)+1:=by unfold wrap64;omega
 clear h hnt m0 m2 m4 n0 n1 n3 n4 n5
 go_enter Tryz.func67,Tryz.ntmps67
 go_upto_region 1 with fail
 go_quiet (fail)
 go_wp2_with fail
 go_ret
 exact ⟨by simp,_,rfl⟩
theorem zfz {N qb cb base:Nat} {c:Sc} {ev nv lv:Value} (s:ByteArray) (a:Int) (w:World) (h:CqI N qb cb base c ev nv lv w) (hb:base<=1000000) (hi:c.idx s<=1000000) :
 Calls Tryz.prog 74 #[.pointer (some ⟨qb,0,none⟩),.agg #[.string s,.int .i64 a]] w (λe w'=>e=.returned (.int .i64 ((base+c.idx s:Nat):Int))/\Below w.heap.size w w'):=by
 obtain ⟨xe,cpe,nb,rfl,rfl,hnb⟩:=h.sc.shape
 have HQ:=za h
 go_enter Tryz.func74,Tryz.ntmps74
 go_upto_region 1 with fail
 refine zn (λW=>CqI N qb cb base c (.slice xe c.er.length cpe) (.pointer (some ⟨nb,0,none⟩)) lv W/\Below w.heap.size w W/\W.heap[w.heap.size]?=some (.cells #[.string s,.int .i64 a] 93 (0,0))) ⟨h.keep (zq w _),zq w _,zc w _⟩ ?_
 clear h
 rintro W ⟨hQ,hB,hX⟩
 obtain ⟨m0,m1,m2,m3,m4,mf,mz⟩:=zcf hQ.blk
 obtain ⟨s0,s1,sf,sz⟩:=zp hX
 have HIx:=za (zaz s a W.drew (hQ.sc.old (λ_ _=>rfl)) hQ.hN)
 have HQW:=za hQ
 have HB:=za hB
 clear hQ hB hX m2 m3 m4
 go_region_held3 (λw'=>w'.cell? ⟨qb,0,none⟩=some (.slice xe c.er.length cpe)/\w'.cell? ⟨qb,1,none⟩=some (.pointer (some ⟨nb,0,none⟩))/\w'.cell? ⟨w.heap.size,0,none⟩=some (.string s)/\w'.cell? ⟨w.heap.size,1,none⟩=some (.int .i64 a))
  (first|(refine ⟨?_,?_,?_,?_⟩ <;> repeat (first|with_reducible exact m0|with_reducible exact m1|with_reducible exact s0|with_reducible exact s1|with_reducible refine zg ?_|with_reducible refine zj _ ?_|with_reducible refine zk (by omega) ?_|with_reducible refine zd HB1.out ?_ (by first|omega|(rw [zsb];omega))))|go_keep)
  (first
    | (go_at_call 118;refine HS.out.mono ?_;rintro e w2 ⟨rfl,rfl⟩)
    | (go_at_call 72;refine HIx.out.mono ?_;rintro e w1 ⟨rfl,hB1⟩;have HB1:=za (zw hB1);have HS:=za (zeI (c.idx s) w1 (HQW.out.keep HB1.out) hb hi);clear hB1))
 go_wp2_with fail
 go_ret
 exact ⟨rfl,HB.out.trans (HB1.out.mono HB.out.size)⟩
mutual
def zav:Tm->Int
 | .mk k _ _ _ n ts=>if k=0 then (n:Int) else if k=10 then wrap64 (-(zhD ts)) else if k=1 then 1 else 0
def zhD:List Tm->Int
 | []=>0
 | t::_=>zav t
end
theorem zdp {N:Nat}:∀(t:Tm),Wf t->∀(v:Value) (w:World),TT w N t v ->
 Calls Tryz.prog 150 #[v] w (λe w'=>e=.returned (.int .i64 (zav t))/\w=w'):=by
 intro t
 induction t using Tm.ind with
 | h kk a nm n p ts ih =>
   intro hW v w h
   obtain ⟨b,args,vs,rfl,hb,hblk,hown,hlen,hsub,hgs⟩:=h.ptr
   obtain ⟨m0,m1,m2,m3,m4,m5,mf,mz⟩:=zt hblk
   by_cases h0:kk=0
   · have HE:Hid (zav (.mk kk a nm n p ts)=(p:Int)):=by unfold Hid zav;rw [if_pos h0]
     have m0':w.cell? ⟨b,0,none⟩=some (.int .i64 0):=by rw [m0];show some (Value.int .i64 ((kk:Nat):Int))=_;rw [h0];rfl
     have m4':w.cell? ⟨b,4,none⟩=some (.int .i64 (p:Int)):=m4
     clear h hblk hown hlen hsub hgs ih hW h0 m0 m1 m2 m3 m4 m5
     go_enter Tryz.func150,Tryz.ntmps150
     go_wp2_with fail
     go_ret
     rw [HE.out]
     exact ⟨rfl,rfl⟩
   · by_cases h10:kk=10
     · subst h10
       have har:=hW.ar
       obtain ⟨u,us,hu⟩:∃u us,ts=u::us:=by
        cases ts with
        | nil=>simp [Tm.k,Tm.ts,arB] at har
        | cons u us=>exact ⟨u,us,rfl⟩
       subst hu
       obtain ⟨x,cp,rfl⟩:=zB hown
       obtain ⟨y,hy⟩:∃y,vs[0]?=some y:=⟨_,zsc (by rw [hlen];simp [Tm.ts])⟩
       obtain ⟨g',rfl,hcell⟩:=zbE hown hy
       have hTu:=hsub 0 u y rfl hy
       obtain ⟨bu,_,_,rfl,_⟩:=hTu.ptr
       have HC:=za (ih u (List.mem_cons_self ..) (hW.sub (List.mem_cons_self ..)) _ w hTu)
       have HE:Hid (zav (.mk 10 a nm n p (u::us))=wrap64 (-(zav u))):=by unfold Hid;rw [zav,if_neg (by omega),if_pos rfl,zhD]
       have m0':w.cell? ⟨b,0,none⟩=some (.int .i64 10):=m0
       have hvl:(0:Int)<(vs.length:Int):=by rw [hlen];simp [Tm.ts]
       clear h hblk hown hlen hsub hgs ih hW h0 m0 m1 m2 m3 m4 hTu hy har
       go_enter Tryz.func150,Tryz.ntmps150
       go_wp2_with (go_at_call 150;refine HC.out.mono ?_;rintro e w1 ⟨rfl,rfl⟩)
       go_ret
       rw [HE.out]
       exact ⟨rfl,rfl⟩
     · by_cases h1:kk=1
       · have HE:Hid (zav (.mk kk a nm n p ts)=1):=by unfold Hid zav;rw [if_neg h0,if_neg h10,if_pos h1]
         have m0':w.cell? ⟨b,0,none⟩=some (.int .i64 1):=by rw [m0];show some (Value.int .i64 ((kk:Nat):Int))=_;rw [h1];rfl
         clear h hblk hown hlen hsub hgs ih hW h0 h1 h10 m0 m1 m2 m3 m4 m5
         go_enter Tryz.func150,Tryz.ntmps150
         go_wp2_with fail
         go_ret
         rw [HE.out]
         exact ⟨rfl,rfl⟩
       · have HE:Hid (zav (.mk kk a nm n p ts)=0):=by unfold Hid zav;rw [if_neg h0,if_neg h10,if_neg h1]
         have m0':w.cell? ⟨b,0,none⟩=some (.int .i64 (kk:Int)):=m0
         have g0:¬(kk:Int)=0:=by omega
         have g1:¬(kk:Int)=1:=by omega
         have g10:¬(kk:Int)=10:=by omega
         clear h hblk hown hlen hsub hgs ih hW h0 h1 h10 m0 m1 m2 m3 m4 m5
         go_enter Tryz.func150,Tryz.ntmps150
         go_wp2_with fail
         go_ret
         rw [HE.out]
         exact ⟨rfl,rfl⟩
end
section
open Go.RowKit
attribute [local go_sem ↓] Go.wp_at_zero Go.wp_at_succ
def whM (c:Sc) (base:Nat):Nat->Nat×Nat->List (Nat×Int)
 | 0,_=>[(1,((base+c.nd.vars.length:Nat):Int))]
 | f+1,k=>if k.2=0 then [(1,((base+c.nd.vars.length:Nat):Int))] else whM c base f (c.up k)++(1,((base+k.1:Nat):Int))::((if k.2=2 then [(8,0)] else [])++[(9,0)])
def zfT (c:Sc):Nat->Nat×Nat->Prop
 | 0,k=>k.2=0
 | f+1,k=>k.2=0∨(k.1<=1000000/\zfT c f (c.up k))
theorem znn (c:Sc) (base f:Nat) (k:Nat×Nat) (h:k.2=0):whM c base f k=[(1,((base+c.nd.vars.length:Nat):Int))]:=by
 cases f with
 | zero=>rfl
 | succ f=>unfold whM;rw [if_pos h]
structure WX (N B wb kb qb cb base:Nat) (c:Sc) (ev nv lv:Value) (w:World) (z:Nat) (o:Obj) (K:Cd) (W:World):Prop where
 wi:WI N B wb kb qb cb base c ev nv lv K W
 ft:FT (KT kb) w W
 bx:W.heap[z]?=some o
 nz:¬KT kb W z
theorem WX.step {N B wb kb qb cb base:Nat} {c:Sc} {ev nv lv:Value} {w:World} {z:Nat} {o:Obj} {K K':Cd} {W W':World} (h:WX N B wb kb qb cb base c ev nv lv w z o K W) (hk:KW B wb kb K' W') (hf:FT (KT kb) W W'):WX N B wb kb qb cb base c ev nv lv w z o K' W' :=
 ⟨h.wi.ft hk hf,h.ft.trans hf,(hf.fr.block _ (ze h.bx) h.nz).trans h.bx,hf.not (ze h.bx) h.nz⟩
theorem WX.add {N B wb kb qb cb base:Nat} {c:Sc} {ev nv lv:Value} {w:World} {z:Nat} {o:Obj} {K:Cd} {W:World} (h:WX N B wb kb qb cb base c ev nv lv w z o K W) (op:Nat) (x:Int) (hr:K.row.length<=1000000) :
 Calls Tryz.prog 36 #[.pointer (some ⟨wb,0,none⟩),.int .u8 (op:Int),.int .i64 x] W (λe w'=>e=.returned (.tuple #[])/\WX N B wb kb qb cb base c ev nv lv w z o (K.add op x) w'):=by
 refine (zc7 B wb kb K op x W h.wi.kw hr).mono ?_
 rintro e w' ⟨h1,h2,h3⟩
 exact ⟨h1,h.step h2 h3⟩
theorem WX.new {N B wb kb qb cb base:Nat} {c:Sc} {ev nv lv:Value} {w:World} {K:Cd} (h:WI N B wb kb qb cb base c ev nv lv K w) (o:Obj):WX N B wb kb qb cb base c ev nv lv w w.heap.size o K (w.alloc o) :=
 ⟨h.keep (zq w o),h.kw.ft (zq w o),zc w o,λe=>by have:=h.kw.lt _ (h.kw.tk (zq w o) _ e);omega⟩
theorem zgx {N B wb kb qb cb base:Nat} {c:Sc} {ev nv lv:Value} (hb:base<=1000000) :
 ∀(f:Nat) (k:Nat×Nat) (K:Cd) (w:World),zfT c f k->WI N B wb kb qb cb base c ev nv lv K w->K.row.length+(whM c base f k).length<=1000000 ->
  Calls Tryz.prog 75 #[.pointer (some ⟨wb,0,none⟩),.pointer (some ⟨qb,0,none⟩),ckV k] w (λe w'=>e=.returned (.tuple #[])/\KW B wb kb (K.adds (whM c base f k)) w'/\FT (KT kb) w w'):=by
 have zero:∀(f:Nat) (k:Nat×Nat) (K:Cd) (w:World),k.2=0->WI N B wb kb qb cb base c ev nv lv K w->K.row.length+(whM c base f k).length<=1000000 ->
  Calls Tryz.prog 75 #[.pointer (some ⟨wb,0,none⟩),.pointer (some ⟨qb,0,none⟩),ckV k] w (λe w'=>e=.returned (.tuple #[])/\KW B wb kb (K.adds (whM c base f k)) w'/\FT (KT kb) w w'):=by
  intro f k K w hk hW hr
  rw [znn c base f k hk] at hr ⊢
  have HW0:=za (WX.new hW (.cells #[.int .i64 (k.1:Nat),.int .i64 (k.2:Nat)] 169))
  have Hk:=za hk
  obtain ⟨Kf,hKf⟩:∃Kf,K.adds [(1,((base+c.nd.vars.length:Nat):Int))]=Kf:=⟨_,rfl⟩
  rw [hKf]
  have HKf:=za hKf
  clear hW hk hKf
  unfold ckV
  go_enter Tryz.func75,Tryz.ntmps75
  go_upto_region 1 with fail
  refine zn (λW=>WX N B wb kb qb cb base c ev nv lv w w.heap.size (.cells #[.int .i64 (k.1:Nat),.int .i64 (k.2:Nat)] 169) K W) HW0.out ?_
  intro W hX
  obtain ⟨b0,b1,bf,bz⟩:=zp hX.bx
  have HX:=za hX
  have hk':(k.2:Int)=0:=by have:=Hk.out;omega
  clear hX HW0
  go_wp2_with (first
   | (go_at_call 36;refine (HX.out.add 1 ((base+c.nd.vars.length:Nat):Int) (by simp at hr;omega)).mono ?_;rintro e w2 ⟨rfl,hX2⟩;have HX2:=za hX2;clear hX2)
   | (go_at_call 68;refine (zhw _ HX.out.wi.qi hb).mono ?_;rintro e w' ⟨rfl,rfl⟩))
  first|go_end0|refine bodyPost_ret (results_none rfl _ _ _) rfl ?_
  rw [<- HKf.out]
  exact ⟨rfl,HX2.out.wi.kw,HX2.out.ft⟩
 intro f
 induction f with
 | zero =>
   intro k K w hk hW hr
   exact zero 0 k K w hk hW hr
 | succ f ih =>
   intro k K w hk hW hr
   by_cases hk0:k.2=0
   · exact zero (f+1) k K w hk0 hW hr
   · have hch:k.1<=1000000/\zfT c f (c.up k):=hk.resolve_left hk0
     have hL:whM c base (f+1) k=whM c base f (c.up k)++(1,((base+k.1:Nat):Int))::((if k.2=2 then [(8,0)] else [])++[(9,0)]):=by rw [whM,if_neg hk0]
     rw [hL] at hr ⊢
     rw [List.length_append,List.length_cons,List.length_append,List.length_singleton] at hr
     obtain ⟨l,hl⟩:∃l,whM c base f (c.up k)=l:=⟨_,rfl⟩
     rw [hl] at hr ⊢
     obtain ⟨Kf,hKf⟩:∃Kf,K.adds (l++(1,((base+k.1:Nat):Int))::((if k.2=2 then [(8,0)] else [])++[(9,0)]))=Kf:=⟨_,rfl⟩
     rw [hKf]
     have HKf:=za hKf
     clear hKf
     have Hih:=za ih
     have HW0:=za (WX.new hW (.cells #[.int .i64 (k.1:Nat),.int .i64 (k.2:Nat)] 169))
     have hk0':¬(k.2:Int)=0:=by omega
     obtain ⟨hk1,hch2⟩:=hch
     have Hch:=za hch2
     have Hl:=za hl
     clear hW hk hk0 hch2 hL ih hl
     unfold ckV
     go_enter Tryz.func75,Tryz.ntmps75
     go_upto_region 3 with fail
     refine zn (λW=>WX N B wb kb qb cb base c ev nv lv w w.heap.size (.cells #[.int .i64 (k.1:Nat),.int .i64 (k.2:Nat)] 169) K W) HW0.out ?_
     intro W hX
     obtain ⟨b0,b1,bf,bz⟩:=zp hX.bx
     obtain ⟨m0,m1,m2,m3,m4,mf,mz⟩:=zcf hX.wi.qi.blk
     have hlk:(Instr.lookup 99 (.map (some cb)) (.agg #[.int .i64 (k.1:Nat),.int .i64 (k.2:Nat)]) false).run Tryz.prog W.drew=.ok (.agg #[.int .i64 ((c.up k).1:Nat),.int .i64 ((c.up k).2:Nat)]) W.drew:=zkW (w:=W.drew) (hX.wi.qi.ck.of' (w':=W.drew) rfl) k
     have HR:=za (Hih.out (c.up k) K W.drew Hch.out (hX.wi.keep (zo (Below.refl _ _))) (by rw [Hl.out];omega))
     rw [Hl.out] at HR
     unfold ckV at HR
     have HX:=za hX
     have hnz:=hX.nz
     have hnq:=hX.wi.nq
     clear hX m0 m1 m3 m4
     go_region_held3 (λw'=>w'.cell? ⟨qb,2,none⟩=some (.map (some cb))/\w'.cell? ⟨w.heap.size,0,none⟩=some (.int .i64 (k.1:Nat))/\w'.cell? ⟨w.heap.size,1,none⟩=some (.int .i64 (k.2:Nat)))
      (first|(refine ⟨?_,?_,?_⟩ <;> repeat (first|with_reducible exact m2|with_reducible exact b0|with_reducible exact b1|with_reducible refine zg ?_|with_reducible refine FT.cell HF1.out ?_ (by assumption)))|go_keep)
      (first
        | (go_at_call 75;refine HR.out.mono ?_;rintro e w1 ⟨rfl,hK1,hF1⟩;have hF1':FT (KT kb) W w1:=⟨hF1.fr.undrew,hF1.tk⟩;have HX1:=za (HX.out.step hK1 hF1');have HF1:=za hF1';clear hK1 hF1 hF1'))
     obtain ⟨c0,c1,cf,cz⟩:=zp HX1.out.bx
     clear b0 b1 bf bz m2 mf mz HR HF1 hlk hnz hnq
     go_upto_region 5 with (first
      | (go_at_call 36;refine (HX1.out.add 1 ((base+k.1:Nat):Int) (by rw [Cd.adds_len];omega)).mono ?_;rintro e w2 ⟨rfl,hX2⟩;have HX2:=za hX2;obtain ⟨d0,d1,df,dz⟩:=zp hX2.bx;clear hX2)
      | (go_at_call 118;refine (zeI k.1 _ HX1.out.wi.qi hb hk1).mono ?_;rintro e w' ⟨rfl,rfl⟩))
     clear c0 c1 cf cz
     by_cases h2:k.2=2
     · have h2':(k.2:Int)=2:=by omega
       rw [if_pos h2] at hr
       have HE:Hid ((((K.adds l).add 1 ((base+k.1:Nat):Int)).add 8 0).add 9 0=K.adds (l++(1,((base+k.1:Nat):Int))::((if k.2=2 then [(8,0)] else [])++[(9,0)]))):=by
        unfold Hid;rw [if_pos h2];simp [Cd.add,Cd.adds]
       clear h2
       go_wp2_with (first
        | (go_at_call 36;refine (HX3.out.add 9 0 (by simp [Cd.add,Cd.adds];omega)).mono ?_;rintro e w4 ⟨rfl,hX4⟩;have HX4:=za hX4;clear hX4)
        | (go_at_call 36;refine (HX2.out.add 8 0 (by simp [Cd.add,Cd.adds];omega)).mono ?_;rintro e w3 ⟨rfl,hX3⟩;have HX3:=za hX3;clear hX3))
       first|go_end0|refine bodyPost_ret (results_none rfl _ _ _) rfl ?_
       rw [<- HKf.out,<- HE.out]
       exact ⟨rfl,HX4.out.wi.kw,HX4.out.ft⟩
     · have h2':¬(k.2:Int)=2:=by omega
       rw [if_neg h2] at hr
       have HE:Hid (((K.adds l).add 1 ((base+k.1:Nat):Int)).add 9 0=K.adds (l++(1,((base+k.1:Nat):Int))::((if k.2=2 then [(8,0)] else [])++[(9,0)]))):=by
        unfold Hid;rw [if_neg h2];simp [Cd.add,Cd.adds]
       clear h2
       go_wp2_with (first
        | (go_at_call 36;refine (HX2.out.add 9 0 (by simp [Cd.add,Cd.adds];omega)).mono ?_;rintro e w4 ⟨rfl,hX4⟩;have HX4:=za hX4;clear hX4))
       first|go_end0|refine bodyPost_ret (results_none rfl _ _ _) rfl ?_
       rw [<- HKf.out,<- HE.out]
       exact ⟨rfl,HX4.out.wi.kw,HX4.out.ft⟩
end
section
open Go.RowKit
def zbj (w:World) (base:Nat) (e:TypeId) (size:Nat) (v:Value) (n:Nat) (xs:List Value):Prop :=
 xs.length=n*size/\((v=.slice none 0 0/\n=0) ∨
  ∃g o cap cur,v=.slice (some ⟨g,o,none⟩) n cap/\base<=g/\w.heap[g]?=some (.cells cur e (0,0))/\n<=cap/\cap<=maxLen/\o+cap*size<=cur.size/\(cur.toList.drop o).take (n*size)=xs)
theorem zia {w:World} {base:Nat} {e:TypeId} {size:Nat} {v:Value} {n:Nat} {xs:List Value} (h:w.ownsRow base e size v n xs):zbj w base e size v n xs:=by
 refine ⟨h.1,?_⟩
 rcases h.2 with h|⟨g,cap,cur,h1,h2,h3,h4,h5,h6,h7⟩
 · exact Or.inl h
 · exact Or.inr ⟨g,0,cap,cur,h1,h2,h3,h4,h5,by omega,by simpa using h7⟩
theorem zij (w:World) (base:Nat) (e:TypeId) (size:Nat):zbj w base e size (.slice none 0 0) 0 []:=⟨by simp,Or.inl ⟨rfl,rfl⟩⟩
theorem zbj.lt {w:World} {base:Nat} {e:TypeId} {size:Nat} {v:Value} {n:Nat} {xs:List Value} (h:zbj w base e size v n xs):∀k,v.ownBlock=some k->base<=k/\k<w.heap.size:=by
 intro k hk
 rcases h.2 with ⟨rfl,_⟩|⟨g,o,cap,cur,rfl,h2,h3,_⟩
 · simp [Value.ownBlock] at hk
 · simp [Value.ownBlock] at hk
   subst hk
   exact ⟨h2,ze h3⟩
theorem zbM {w w':World} {base:Nat} {e:TypeId} {size:Nat} {v:Value} {n:Nat} {xs:List Value} (h:zbj w base e size v n xs) (hk:∀k,base<=k->k<w.heap.size->v.ownBlock=some k->w'.heap[k]?=w.heap[k]?):zbj w' base e size v n xs:=by
 refine ⟨h.1,?_⟩
 rcases h.2 with h1|⟨g,o,cap,cur,rfl,h2,h3,h4⟩
 · exact Or.inl h1
 · exact Or.inr ⟨g,o,cap,cur,rfl,h2,(hk g h2 (ze h3) rfl).trans h3,h4⟩
theorem zeR {w:World} {base:Nat} {e:TypeId} {size:Nat} {v:Value} {n:Nat} {xs:List Value} (h:zbj w base e size v n xs):∃x cp,v=.slice x n cp:=by
 rcases h.2 with ⟨h1,h2⟩|⟨g,o,cap,cur,rfl,_⟩
 · exact ⟨none,0,by rw [h1,h2]⟩
 · exact ⟨_,cap,rfl⟩
theorem zdb {w:World} {base:Nat} {e:TypeId} {size n cp:Nat} {a:Option Addr} {xs:List Value} (h:zbj w base e size (.slice a n cp) n xs) {j:Nat} {u:Value} (hj:xs[j]?=some u):∃g o,a=some ⟨g,o,none⟩/\w.cell? ⟨g,o+j,none⟩=some u:=by
 have hjl:=(List.getElem?_eq_some_iff.1 hj).1
 rcases h.2 with ⟨h1,h2⟩|⟨g,o,cap,cur,h1,h2,h3,h4,h5,h6,h7⟩
 · have:=h.1;rw [h2] at this;omega
 · cases h1
   refine ⟨g,o,rfl,?_⟩
   have:cur[o+j]?=some u:=by
    rw [<- h7,List.getElem?_take] at hj
    split at hj
    · rw [List.getElem?_drop] at hj;simpa using hj
    · cases hj
   simp [World.cell?,h3,this]
theorem zle {P:Program} {t e:TypeId} {size:Nat} (ht:P.underlying t=some (.slice e)) (hsz:∀w,(sizeOf e).run P w=.ok size w) {w:World} {base n cp:Nat} {a:Option Addr} {xs:List Value} (h:zbj w base e size (.slice a (n+1) cp) (n+1) xs) :
 ∃a' cp',(∀W,(Instr.slice t (.slice a (n+1) cp) (some (.int .i64 1)) none none).run P W=.ok (.slice a' n cp') W)/\zbj w base e size (.slice a' n cp') n (xs.drop size)/\(∀k,(Value.slice a' n cp').ownBlock=some k->(Value.slice a (n+1) cp).ownBlock=some k):=by
 rcases h.2 with ⟨h1,h2⟩|⟨g,o,cap,cur,h1,h2,h3,h4,h5,h6,h7⟩
 · omega
 · cases h1
   have i2:(1:Int)<=(n:Int)+1:=by omega
   have hx:(xs.drop size).length=n*size:=by rw [List.length_drop,h.1,Nat.add_mul];omega
   by_cases hc:cp=1
   · subst hc
     have hn:n=0:=by omega
     subst hn
     refine ⟨some ⟨g,o,none⟩,0,λW=>by simp [Instr.slice,Instr.sliceBounds,Instr.sliceBound,run_underlying ht,hsz,asIntOf],⟨hx,Or.inr ⟨g,o,0,cur,rfl,h2,h3,by omega,by omega,by omega,?_⟩⟩,λk hk=>hk⟩
     have:(xs.drop size).length=0:=by omega
     rw [List.eq_nil_of_length_eq_zero this];simp
   · refine ⟨some ⟨g,o+size,none⟩,cp-1,λW=>by simp [Instr.slice,Instr.sliceBounds,Instr.sliceBound,run_underlying ht,hsz,asIntOf,hc,Addr.add_lit,i2],⟨hx,Or.inr ⟨g,o+size,cp-1,cur,rfl,h2,h3,by omega,by omega,?_,?_⟩⟩,λk hk=>hk⟩
     · have:(cp-1)*size+size=cp*size:=by rw [<- Nat.succ_mul,show (cp-1).succ=cp by omega]
       omega
     · rw [<- h7,List.drop_take,List.drop_drop]
       congr 1
       rw [Nat.add_mul];omega
section
variable {P:Program} (w:World)
theorem zhI (t ty e:TypeId) (i:TypeInfo) (ht:P.underlying t=some (.slice e)) (hi:P.info? e=some i)
 (g o sLen sCap:Nat) (cur:Array Value) (hg:w.heap[g]?=some (.cells cur e (0,0)))
 (a:Addr) (m c:Nat) (news:List Value) (hl:news.length=m*i.size) (hnews:∀j u,news[j]?=some u->w.cell? (a.add j)=some u) (h1:∀u∈news,u.oneCell'=true)
 (hroom:sLen+m<=sCap) (hfit:o+sLen*i.size+news.length<=cur.size) :
 (Builtin.append_ #[t,t] ty #[.slice (some ⟨g,o,none⟩) sLen sCap,.slice (some a) m c]).run P w =
   .ok (.slice (some ⟨g,o,none⟩) (sLen+m) sCap) (w.setRow g (cur.toList.take (o+sLen*i.size)++news++cur.toList.drop (o+sLen*i.size+news.length)).toArray):=by
 have hf:=run_firstCells_some (P:=P) w i.size m a m c news hl hnews
 have hst:=run_storeCells_at P g (o+sLen*i.size) e news 0 cur w hg (by simpa using hfit) h1
 simp only [Nat.add_zero] at hst
 simp [Builtin.append_,run_underlying ht,sizeOf,typeInfo,hi,Builtin.lenOf,hroom,hf,Addr.add_lit,hst]
theorem zmL (base:Nat) (t ty e:TypeId) (i:TypeInfo) (z:Value) (size bytes:Nat) (ht:P.underlying t=some (.slice e)) (hi:P.info? e=some i) (hz:i.zero=some z)
 (hsize:i.size=size) (hby:i.bytes=bytes) (hzs:z.cells.size=size) (hsz:0<size)
 (v:Value) (n:Nat) (xs:List Value) (hown:zbj w base e size v n xs)
 (a:Addr) (m c:Nat) (news:List Value) (hl:news.length=m*size) (hnews:∀j u,news[j]?=some u->w.cell? (a.add j)=some u) (h1:∀u∈news,u.oneCell'=true)
 (h63:n+m<=maxLen) (hbytes:(n+m)*bytes<=140737488355328) (hbase:base<=w.heap.size) :
 ∃v' w',(Builtin.append_ #[t,t] ty #[v,.slice (some a) m c]).run P w=.ok v' w'/\zbj w' base e size v' (n+m) (xs++news)/\w.grownBy w' v.ownBlock /\
  ∀k,v'.ownBlock=some k->v.ownBlock=some k∨w.heap.size<=k:=by
 rcases hown.2 with ⟨rfl,rfl⟩|⟨g,o,cap,cur,rfl,hbg,hg,hnc,hcm,hcs,htake⟩
 · have hx:xs=[]:=List.eq_nil_of_length_eq_zero (by simpa using hown.1)
   subst hx
   obtain ⟨v',w',hr,h2,h3,h4⟩:=zha (P:=P) w base t ty e i z size bytes ht hi hz hsize hby hzs hsz (.slice none 0 0) 0 [] (World.ownsRow_nil w base e size) a m c news hl hnews h1 h63 hbytes hbase
   exact ⟨v',w',hr,zia h2,h3,h4⟩
 · have hlen:(xs++news).length=(n+m)*size:=by rw [List.length_append,hown.1,hl,Nat.add_mul]
   by_cases hroom:n+m<=cap
   · subst hsize
     have hmul:(n+m)*i.size<=cap*i.size:=Nat.mul_le_mul_right _ hroom
     have hfit:o+n*i.size+news.length<=cur.size:=by rw [hl];rw [Nat.add_mul] at hmul;omega
     have hr:=zhI (P:=P) w t ty e i ht hi g o n cap cur hg a m c news hl hnews h1 hroom hfit
     refine ⟨_,_,hr,⟨hlen,Or.inr ⟨g,o,cap,_,rfl,hbg,setRow_heap w g cur _ e _ hg,hroom,hcm,?_,?_⟩⟩,⟨rfl,rfl,rfl,by simp,λk _ hk=>setRow_other w g k _ (λe=>hk (by simp [Value.ownBlock,e]))⟩,λk hk=>Or.inl hk⟩
     · simp only [List.size_toArray,List.length_append,List.length_take,List.length_drop,Array.length_toList]
       omega
     · have e1:(cur.toList.take (o+n*i.size)).drop o=xs:=by rw [List.drop_take,Nat.add_sub_cancel_left];exact htake
       have hol:o<=(cur.toList.take (o+n*i.size)).length:=by rw [List.length_take,Array.length_toList];omega
       show (List.drop o (cur.toList.take (o+n*i.size)++news++_)).take _=_
       rw [List.append_assoc,List.drop_append_of_le_length hol,e1,<- List.append_assoc,<- hlen]
       exact List.take_left
   · have holds:∀j u,xs[j]?=some u->w.cell? ((⟨g,o,none⟩:Addr).add j)=some u:=by
      intro j u hj
      obtain ⟨g',o',e1,e2⟩:=zdb hown hj
      cases e1
      rw [Addr.add_lit]
      exact e2
     obtain ⟨v',w',hr,h2,h3⟩:=run_append_arg_grows (P:=P) w t ty e i z size bytes ht hi hz hsize hby hzs hsz ⟨g,o,none⟩ n cap xs hown.1 holds a m c news hl hnews (by omega) h63 hbytes
     exact ⟨v',w',hr,zia (zR h2 hbase),⟨h3.os,h3.tape,h3.output,h3.size,λk hk _=>h3.block k hk (by simp)⟩,λk hk=>Or.inr (h2.lt k hk).1⟩
theorem ze4 {ops:Array Oper} {o:Oper} {a:Act} {K:Act->World->Prop} {Q:Exit->Act->World->Prop} {E:Prop}
 (hg:o.guard=none) (s x:Operand) (t:TypeId) (ho:o.op=.call { callee:=.builtin .append,args:=#[s,x],argTypes:=#[t,t] })
 (base:Nat) (e:TypeId) (i:TypeInfo) (z:Value) (size bytes:Nat) (ht:P.underlying t=some (.slice e)) (hi:P.info? e=some i) (hz:i.zero=some z)
 (hsize:i.size=size) (hby:i.bytes=bytes) (hzs:z.cells.size=size) (hsz:0<size)
 (v:Value) (n:Nat) (xs:List Value) (hs:a.eval s=v) (hown:zbj w base e size v n xs)
 (ad:Addr) (m c:Nat) (news:List Value) (hx:a.eval x=.slice (some ad) m c) (hl:news.length=m*size) (hnews:∀j u,news[j]?=some u->w.cell? (ad.add j)=some u) (h1:∀u∈news,u.oneCell'=true)
 (h63:n+m<=maxLen) (hbytes:(n+m)*bytes<=140737488355328) (hbase:base<=w.heap.size)
 (h:∀v' w',zbj w' base e size v' (n+m) (xs++news)->w.grownBy w' v.ownBlock->(∀k,v'.ownBlock=some k->v.ownBlock=some k∨w.heap.size<=k)->K (a.put o.dst v') w') :
 if Region.wanted o (yielded ops a.tmps)=true then Oper.wp P o a w K Q else E:=by
 have hw:Region.wanted o (yielded ops a.tmps)=true:=by simp [Region.wanted,hg]
 rw [if_pos hw]
 obtain ⟨v',w',hr,h2,h3,h4⟩:=zmL (P:=P) w base t o.type e i z size bytes ht hi hz hsize hby hzs hsz v n xs hown ad m c news hl hnews h1 h63 hbytes hbase
 unfold Oper.wp execOp
 simp only [ho,resolve,invoke,builtin,Sem.run_bind,Sem.run_pure,Result.andThen_ok,List.map_toArray,List.map_cons,List.map_nil,hs,hx,hr]
 exact h v' w' h2 h3 h4
end
end
end Go.Proofs.YtedmpgjebafcjaaGreatDoor
