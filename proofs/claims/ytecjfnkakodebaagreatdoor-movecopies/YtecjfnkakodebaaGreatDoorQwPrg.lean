/-filled, by the area's cells; filled of any area. -/
import Derived.Test.YtecjfnkakodebaaGreatDoorQwIr
set_option maxRecDepth 100000
set_option maxHeartbeats 16000000
namespace Go.Proofs.YtecjfnkakodebaaGreatDoor
open Go.RowKit Go.Maps Go.Sort Go.Lib Go.Shelf
attribute [local go_sem] Oper.semAt_some
def hasL (L:List Cc) (x:Int×Int):Bool:=L.any fun y=>decide (y.1=x)
theorem hasL_iff {L:List Cc} {x:Int×Int}:hasL L x=true↔∃a,(x,a)∈L:=by
 unfold hasL
 rw[List.any_eq_true]
 constructor
 ·rintro⟨⟨k,a⟩,h1,h2⟩
  have e:=of_decide_eq_true h2
  simp only at e
  subst e
  exact⟨a,h1⟩
 ·rintro⟨a,h⟩
  exact⟨_,h,by simp⟩
def uK (m1 m2 m3:Int) (L:List Cc) (k:Nat):List (Int×Int):=((List.range k).map (cK m1 m2 m3)).filter (hasL L)
theorem uK_next (m1 m2 m3:Int) (L:List Cc) (k:Nat):uK m1 m2 m3 L (k+1)=if hasL L (cK m1 m2 m3 k)=true then uK m1 m2 m3 L k++[cK m1 m2 m3 k] else uK m1 m2 m3 L k:=by
 unfold uK
 rw[List.range_succ,List.map_append,List.filter_append]
 split
 ·rename_i h
  simp[h]
 ·rename_i h
  simp[h]
theorem uK_len (m1 m2 m3:Int) (L:List Cc) (k:Nat):(uK m1 m2 m3 L k).length<=k:=by
 unfold uK
 exact Nat.le_trans (List.length_filter_le _ _) (by simp)
theorem cK_lt (m1 m2 m3:Int) {i j:Nat} (h:i<j):ltOf cfA (cK m1 m2 m3 i) (cK m1 m2 m3 j)=true:=by
 rw[cfA_lt]
 unfold cK
 simp only
 obtain⟨p,hp⟩:∃p,wdA m1 m3=p:=⟨_,rfl⟩
 rw[hp]
 have hd:i/p<=j/p:=Nat.div_le_div_right (by omega)
 have e1:=Nat.div_add_mod i p
 have e2:=Nat.div_add_mod j p
 rcases Nat.lt_or_ge (i/p) (j/p) with q|q
 ·exact .inl (by omega)
 ·have e:i/p=j/p:=Nat.le_antisymm hd q
  rw[e] at e1
  exact .inr ⟨by rw[e],by omega⟩
theorem uK_strict (m1 m2 m3:Int) (L:List Cc) (k:Nat):Strict (uK m1 m2 m3 L k):=by
 unfold Strict uK
 refine List.Pairwise.filter _ ?_
 rw[List.pairwise_map]
 exact List.pairwise_lt_range.imp fun h=>cK_lt m1 m2 m3 h
theorem cK_in {m1 m2 m3 m4:Int} {x:Int×Int}:(∃k,k<szN m1 m2 m3 m4/\cK m1 m2 m3 k=x)↔inA m1 m2 m3 m4 x.1 x.2=true:=by
 unfold szN inA
 cases hv:vA m1 m2 m3 m4 with
 | false=>simp
 | true=>
  obtain⟨b1,b2,b3,b4,b5,b6⟩:=(vA_iff m1 m2 m3 m4).1 hv
  obtain⟨p,hp⟩:∃p,wdA m1 m3=p:=⟨_,rfl⟩
  obtain⟨q,hq⟩:∃q,wdA m2 m4=q:=⟨_,rfl⟩
  have hp':(p:Int)=m3-m1+1:=by rw[<- hp];unfold wdA;omega
  have hq':(q:Int)=m4-m2+1:=by rw[<- hq];unfold wdA;omega
  have hC:=fun x y hx=>cK_at m1 m2 m3 x y hx
  rw[hp] at hC
  rw[hp,hq]
  simp only[if_true,Bool.true_and,Bool.and_eq_true,decide_eq_true_eq]
  constructor
  ·rintro⟨k,hk,rfl⟩
   have hm:k%p<p:=Nat.mod_lt _ (by omega)
   have hd:k/p<q:=by
    rw[Nat.div_lt_iff_lt_mul (by omega)];exact hk
   unfold cK
   rw[hp]
   simp only
   generalize k%p=x at *
   generalize k/p=y at *
   omega
  ·rintro⟨⟨⟨h1,h2⟩,h3⟩,h4⟩
   refine⟨(x.2-m2).toNat*p+(x.1-m1).toNat,idx_lt (by omega) (by omega),?_⟩
   rw[hC _ _ (by omega)]
   refine Prod.ext ?_ ?_
   ·simp only;omega
   ·simp only;omega
theorem uK_mem {m1 m2 m3 m4:Int} {L M:List Cc} (h:inL m1 m2 m3 m4 L=M) (x:Int×Int):x∈uK m1 m2 m3 L (szN m1 m2 m3 m4)↔∃a,(x,a)∈M:=by
 unfold uK
 rw[List.mem_filter,hasL_iff,List.mem_map]
 constructor
 ·rintro⟨⟨k,hk,e⟩,a,ha⟩
  exact⟨a,(inL_iff h).2 ⟨ha,cK_in.1 ⟨k,List.mem_range.1 hk,e⟩⟩⟩
 ·rintro⟨a,ha⟩
  obtain⟨h1,h2⟩:=(inL_iff h).1 ha
  obtain⟨k,hk,e⟩:=cK_in.2 h2
  exact⟨⟨k,List.mem_range.2 hk,e⟩,a,h1⟩
theorem szN_le (m1 m2 m3 m4:Int):szN m1 m2 m3 m4<=1048576:=by
 unfold szN
 split
 ·rename_i hv
  obtain⟨b1,b2,b3,b4,b5,b6⟩:=(vA_iff m1 m2 m3 m4).1 hv
  have h1:wdA m2 m4<=4096:=by unfold wdA;omega
  have h2:wdA m1 m3<=256:=by unfold wdA;omega
  exact Nat.mul_le_mul h1 h2
 ·omega
theorem cK_i64 {m1 m2 m3 m4:Int} {k:Nat} (h:k<szN m1 m2 m3 m4):I64 (cK m1 m2 m3 k).1/\I64 (cK m1 m2 m3 k).2:=by
 have:=cK_in.1 ⟨k,h,rfl⟩
 unfold inA at this
 simp only[Bool.and_eq_true,decide_eq_true_eq] at this
 obtain⟨⟨⟨⟨hv,h1⟩,h2⟩,h3⟩,h4⟩:=this
 obtain⟨b1,b2,b3,b4,b5,b6⟩:=(vA_iff m1 m2 m3 m4).1 hv
 unfold I64
 omega
structure FcR (w Wc:World) (g b0 b2:Nat) (U:List (Int×Int)) (Z:Nat->Prop) (W:World) (v:Value):Prop where
 bg:Blk W b0 [.pointer (some ⟨g,0,none⟩)] 24
 box:Blk W b2 [v] 78
 row:W.ownsRow (Wc.heap.size+2) 32 2 v U.length (flatK encA 2 U.toArray).toList
 z:∀i,Z i↔i=b2∨v.ownBlock=some i
 kp:Kp w W Nul
theorem FcR.hI {w Wc:World} {g b0 b2:Nat} {U:List (Int×Int)} {Z:Nat->Prop} {W W':World} {v:Value} (h:FcR w Wc g b0 b2 U Z W v) (h0:b0<Wc.heap.size) (h2:b2<Wc.heap.size) (hw:w.heap.size<=Wc.heap.size) (q:Kp W W' (fun i=>i=Wc.heap.size∨i=Wc.heap.size+1)):FcR w Wc g b0 b2 U Z W' v:=
 ⟨h.bg.kp q (fun e=>by rcases e with e|e <;> omega),h.box.kp q (fun e=>by rcases e with e|e <;> omega),row_kp h.row q (fun i hi e=>by rcases e with e|e <;> omega),h.z,h.kp.trans' q (fun i hi e=>by rcases e with e|e <;> omega)⟩
theorem filled_cells (g:Nat) (m1 m2 m3 m4:Int) (L M:List Cc) (hM:inL m1 m2 m3 m4 L=M) (w:World) (hg:GI 0 w g L) (sz:Int) (hsz:sizeA m1 m2 m3 m4=sz) (hnl:sz<(L.length:Int)) :
  Calls Tryz.prog 134 #[.pointer (some ⟨g,0,none⟩),.agg #[.int .i64 m1,.int .i64 m2,.int .i64 m3,.int .i64 m4]] w fun e w'=>∃U v',e=.returned v'/\CellsFrom w.heap.size w' v' U/\Strict U/\(∀x,x∈U↔∃a,(x,a)∈M)/\Kp w w' Nul:=by
 obtain⟨mv,bg,hlen⟩:=gi_len hg
 obtain⟨i0,hi,hz0,hz1,hz2⟩:=infoAddr
 obtain⟨W3,hW3⟩:∃W3,((w.alloc (.cells #[.pointer (some ⟨g,0,none⟩)] 24)).alloc (.cells #[.int .i64 m1,.int .i64 m2,.int .i64 m3,.int .i64 m4] 34)).alloc (.cells #[.slice none 0 0] 78)=W3:=⟨_,rfl⟩
 have k3:Kp w W3 Nul:=by rw[<- hW3];exact(((Kp.refl w Nul).alloc _).alloc _).alloc _
 have s3:W3.heap.size=w.heap.size+1+1+1:=by rw[<- hW3,World.size_alloc,World.size_alloc,World.size_alloc]
 have B0:Blk W3 w.heap.size [.pointer (some ⟨g,0,none⟩)] 24:=by rw[<- hW3];exact((Blk.new w [.pointer (some ⟨g,0,none⟩)] _).alloc _).alloc _
 have B1:Blk W3 (w.heap.size+1) [.int .i64 m1,.int .i64 m2,.int .i64 m3,.int .i64 m4] 34:=by
  have:=Blk.new (w.alloc (.cells #[.pointer (some ⟨g,0,none⟩)] 24)) [.int .i64 m1,.int .i64 m2,.int .i64 m3,.int .i64 m4] 34
  rw[World.size_alloc] at this
  rw[<- hW3];exact this.alloc _
 have B2:Blk W3 (w.heap.size+1+1) [.slice none 0 0] 78:=by
  have:=Blk.new ((w.alloc (.cells #[.pointer (some ⟨g,0,none⟩)] 24)).alloc (.cells #[.int .i64 m1,.int .i64 m2,.int .i64 m3,.int .i64 m4] 34)) [.slice none 0 0] 78
  rw[World.size_alloc,World.size_alloc] at this
  rw[<- hW3];exact this
 have HS:Hid (∀wq,Kp W3 wq Nul->wq.cell? ⟨w.heap.size,0,none⟩=some (.pointer (some ⟨g,0,none⟩))/\wq.cell? ⟨w.heap.size+1,0,none⟩=some (.int .i64 m1)/\wq.cell? ⟨w.heap.size+1,1,none⟩=some (.int .i64 m2)/\wq.cell? ⟨w.heap.size+1,2,none⟩=some (.int .i64 m3)/\wq.cell? ⟨w.heap.size+1,3,none⟩=some (.int .i64 m4)/\wq.cell? ⟨g,0,none⟩=some (.map mv)/\∀ty,(Builtin.len_ #[94] ty #[.map mv]).run Tryz.prog wq=.ok (.int .i64 L.length) wq):=fun wq k=>
  ⟨(B0.kp k (fun x=>x)).cell rfl,(B1.kp k (fun x=>x)).cell rfl,(B1.kp k (fun x=>x)).cell rfl,(B1.kp k (fun x=>x)).cell rfl,(B1.kp k (fun x=>x)).cell rfl,(bg.kp (k3.trans k) (fun x=>x)).cell rfl,hlen wq (k3.trans k)⟩
 have HSize:Hid (∀wq,Kp W3 wq Nul->Calls Tryz.prog 152 #[.agg #[.int .i64 m1,.int .i64 m2,.int .i64 m3,.int .i64 m4]] wq fun e w'=>e=.returned (.int .i64 sz)/\Kp W3 w' Nul):=fun wq k=>(pSize_any m1 m2 m3 m4 wq).mono fun e w' ⟨q1,q2⟩=>⟨hsz ▸ q1,k.trans (Kp.of_gr q2)⟩
 have HG:Hid (GI 0 w g L):=hg
 have HSZ:Hid (szN m1 m2 m3 m4<=1048576):=szN_le m1 m2 m3 m4
 have HUK:Hid (∀U,uK m1 m2 m3 L (szN m1 m2 m3 m4)=U->Strict U/\∀x,x∈U↔∃a,(x,a)∈M):=fun U hU=>by
  subst hU
  exact⟨uK_strict _ _ _ _ _,fun x=>uK_mem hM x⟩
 have HI64:Hid (∀k,k<szN m1 m2 m3 m4->I64 (cK m1 m2 m3 k).1/\I64 (cK m1 m2 m3 k).2):=fun k hk=>cK_i64 hk
 have HW3:Hid (((w.alloc (.cells #[.pointer (some ⟨g,0,none⟩)] 24)).alloc (.cells #[.int .i64 m1,.int .i64 m2,.int .i64 m3,.int .i64 m4] 34)).alloc (.cells #[.slice none 0 0] 78)=W3):=hW3
 have HK3:Hid (Kp w W3 Nul):=k3
 have HS3:Hid (W3.heap.size=w.heap.size+1+1+1):=s3
 have HB0:Hid (Blk W3 w.heap.size [.pointer (some ⟨g,0,none⟩)] 24):=B0
 have HB1:Hid (Blk W3 (w.heap.size+1) [.int .i64 m1,.int .i64 m2,.int .i64 m3,.int .i64 m4] 34):=B1
 have HB2:Hid (Blk W3 (w.heap.size+1+1) [.slice none 0 0] 78):=B2
 clear hg bg hlen hM hsz hW3 k3 s3 B0 B1 B2
 refine(callsIn_wide (n:=12)).1 ?_
 refine callsIn_of_wp_marks Tryz.func134 rfl trivial ?_ rfl
 simp only[Tryz.ntmps134,List.size_toArray,List.length_cons,List.length_nil,Nat.reduceAdd,Nat.reduceSub,Array.replicate_succ,Array.replicate_zero,List.push_toArray,List.append_toArray,List.nil_append,List.cons_append]
 refine wpIn_wide.2 ?_
 go_wp2_with fail
 rw[HW3.out]
 clear HW3
 refine wp_region_noPanic ?_
 refine wp_region_nul (W:=W3) (Kp.refl _ _) (by kernel_rfl) (by kernel_rfl) ?_
 refine quiet_run (some 8) rfl ?_ (by rfl) ?_ ?_
 rotate_left
 ·intro w' hk;obtain⟨s0,s1,s2,s3,s4,s5,s6⟩:=HS.out _ hk;clear hk;go_simp;try with_reducible rfl
 simp only[Act.put,Sz0,Sz1,Sz2]
 refine quiet_call (some 9) rfl 152 #[.agg #[.int .i64 m1,.int .i64 m2,.int .i64 m3,.int .i64 m4]] (.int .i64 sz) (by rfl) (fun w'=>by go_simp) (fun w' hk=>HSize.out w' hk) ?_
 simp only[Act.put,Sz0,Sz1,Sz2]
 refine quiet_run (some 10) rfl ?_ (by rfl) ?_ ?_
 rotate_left
 ·intro w' hk;obtain⟨s0,s1,s2,s3,s4,s5,s6⟩:=HS.out _ hk;clear hk;go_simp;try with_reducible rfl
 simp only[Act.put,Sz0,Sz1,Sz2]
 refine quiet_run (some 11) rfl ?_ (by rfl) ?_ ?_
 rotate_left
 ·intro w' hk;obtain⟨s0,s1,s2,s3,s4,s5,s6⟩:=HS.out _ hk;clear hk;go_simp;try with_reducible rfl
 simp only[Act.put,Sz0,Sz1,Sz2]
 refine quiet_run (some 12) rfl ?_ (by rfl) ?_ ?_
 rotate_left
 ·intro w' hk;obtain⟨s0,s1,s2,s3,s4,s5,s6⟩:=HS.out _ hk;clear hk;go_simp;try with_reducible rfl
 simp only[Act.put,Sz0,Sz1,Sz2]
 refine quiet_run (some 13) rfl ?_ (by rfl) ?_ ?_
 rotate_left
 ·intro w' hk;obtain⟨s0,s1,s2,s3,s4,s5,s6⟩:=HS.out _ hk;clear hk;go_simp;try with_reducible rfl
 simp only[Act.put,Sz0,Sz1,Sz2]
 refine quiet_run (some 14) rfl ?_ (by rfl) ?_ ?_
 rotate_left
 ·intro w' hk;obtain⟨s0,s1,s2,s3,s4,s5,s6⟩:=HS.out _ hk;clear hk;go_simp;try with_reducible rfl
 simp only[Act.put,Sz0,Sz1,Sz2]
 refine quiet_run (some 15) rfl (.bool true) (by rfl) ?_ ?_
 ·intro w' hk;clear hk;go_simp;try simp[hnl]
 simp only[Act.put,Sz0,Sz1,Sz2]
 refine wpQuiet_nil ?_
 intro w2 hk2
 refine NoPanic.normal ?_
 obtain⟨c0,c1,c2,c3,c4,c5,_⟩:=HS.out w2 hk2
 have HK2:Hid (Kp W3 w2 Nul):=hk2
 have HCl:Hid (∀wq,Calls Tryz.prog 36 #[.agg #[.int .i64 m1,.int .i64 m2,.int .i64 m3,.int .i64 m4]] wq fun e w'=>∃p,e=.returned (.func (.func 69) #[] #[.pointer (some ⟨p,0,none⟩)])/\wq.heap.size<=p/\Blk w' p [.int .i64 m1,.int .i64 m2,.int .i64 m3,.int .i64 m4] 34/\Kp wq w' Nul):=fun wq=>cellsA m1 m2 m3 m4 wq
 clear hk2 hnl HS HSize
 go_wp2_with fail
 refine(HCl.out _).mono ?_
 rintro e Wc ⟨pc,rfl,hpc,hbc,hkc⟩
 have HKc:Hid (Kp W3 Wc Nul):=HK2.out.trans hkc
 have s3c:w.heap.size+1+1+1<=Wc.heap.size:=by have:=HKc.out.size;have:=HS3.out;omega
 have hp2:pc≠w.heap.size+1+1:=by have:=HK2.out.size;have:=HS3.out;omega
 have HBc:Hid (Blk Wc pc [.int .i64 m1,.int .i64 m2,.int .i64 m3,.int .i64 m4] 34):=hbc
 clear hpc hbc hkc HCl c0 c1 c2 c3 c4 c5
 go_wp2_with fail
 generalize hact:Act.mk _ _=a0
 refine wp_range_own (α:=Int×Int) (N:=szN m1 m2 m3 m4) (gf:=69) (lb:=#[.pointer (some ⟨pc,0,none⟩)]) (by rw[<- hact];rfl) (enters_of Tryz.func69 (by kernel_rfl) rfl) (encs:=encXA) (fun _=>rfl) (TellA m1 m2 m3) (fun i=>i=w.heap.size+1+1) ?hseq (fun k Z W=>∃v,FcR w Wc g w.heap.size (w.heap.size+1+1) (uK m1 m2 m3 L k) Z W v) ?hZ ?hZl ?hI (fun i=>i=w.heap.size+1+1∨(Value.slice none 0 0).ownBlock=some i) ?h0 ?hround ?hdone
 case hseq=>exact cells_own m1 m2 m3 m4 pc Wc HBc.out _ hp2
 case hZ=>
  rintro k Z W ⟨v,h⟩
  refine⟨fun q=>?_,fun q=>?_⟩
  ·rcases(h.z _).1 q with e|e
   ·omega
   ·have:=own_block h.row _ e;omega
  ·rcases(h.z _).1 q with e|e
   ·omega
   ·have:=own_block h.row _ e;omega
 case hZl=>
  rintro k Z W ⟨v,h⟩
  refine⟨fun i q=>?_,fun i hi q=>?_⟩
  ·rcases(h.z _).1 q with e|e
   ·subst e;exact h.box.lt
   ·exact(h.row.lt _ e).2
  ·rcases(h.z _).1 q with e|e
   ·exact e
   ·have:=own_block h.row _ e;omega
 case hI=>
  rintro k Z W W' ⟨v,h⟩ q
  exact⟨v,h.hI (by omega) (by omega) (by omega) q⟩
 case h0=>exact⟨.slice none 0 0,HB0.out.kp HKc.out (fun x=>x),HB2.out.kp HKc.out (fun x=>x),⟨by simp[uK,flatK],.inl ⟨rfl,rfl⟩⟩,fun i=>Iff.rfl,HK3.out.trans HKc.out⟩
 case hround=>
  subst hact
  rintro k x Z W KK hkN hsW ⟨v,hR⟩ hx hcont
  unfold TellA at hx
  subst hx
  obtain⟨hi1,hi2⟩:=HI64.out k hkN
  have hnx:=uK_next m1 m2 m3 L k
  obtain⟨U,hU⟩:∃U,uK m1 m2 m3 L k=U:=⟨_,rfl⟩
  have hUl:U.length<1048576:=by have h1:=uK_len m1 m2 m3 L k;have h2:=HSZ.out;rw[hU] at h1;omega
  have HUL:Hid (U.length<1048576):=hUl
  obtain⟨⟨c,s⟩,hcs⟩:∃x,cK m1 m2 m3 k=x:=⟨_,rfl⟩
  rw[hcs] at hi1 hi2 hnx ⊢
  rw[hU] at hR hnx
  have HR:Hid (FcR w Wc g w.heap.size (w.heap.size+1+1) U Z W v):=hR
  obtain⟨B,hB,hhas⟩:=has_gi HG.out hi1 hi2
  have HHas:Hid (∀wq,Kp w wq Nul->Calls Tryz.prog 45 #[.pointer (some ⟨g,0,none⟩),.agg #[.int .i64 c,.int .i64 s]] wq fun e w'=>e=.returned (.bool B)/\Kp wq w' Nul):=hhas
  have hBL:hasL L (c,s)=B:=by
   rcases hB with ⟨rfl,h⟩|⟨rfl,h⟩
   ·exact hasL_iff.2 h
   ·exact Bool.eq_false_iff.2 fun q=>by obtain⟨a,ha⟩:=hasL_iff.1 q;exact h a ha
  rw[hBL] at hnx
  have HNx:Hid (uK m1 m2 m3 L (k+1)=if B=true then U++[(c,s)] else U):=hnx
  have HSW:Hid (Wc.heap.size+2<=W.heap.size):=hsW
  have HSC:Hid (w.heap.size+1+1+1<=Wc.heap.size):=s3c
  generalize uK m1 m2 m3 L (k+1)=U1 at *
  clear hR hB hhas hBL hnx hkN hsW hU hcs hi1 hi2 hUl s3c hp2 HBc HKc HK2 HB0 HB1 HB2 HS3 HK3 HI64 HUK HSZ
  simp only[List.zip_toArray,List.zip_cons_cons,List.zip_nil_right,List.foldl_toArray',List.foldl_cons,List.foldl_nil]
  gi_wp2_with (fail)
  refine hcont _ _ ((Kp.refl W Nul).alloc _) (fun V hV=>?_)
  have hWl:Wc.heap.size+1<W.heap.size:=by have:=HSW.out;omega
  have hWV:Kp W V (fun i=>i=Wc.heap.size∨i=Wc.heap.size+1):=((Kp.refl W _).alloc _).trans (hV.mono (fun i _ e=>.inr e))
  have hRV:FcR w Wc g w.heap.size (w.heap.size+1+1) U Z V v:=HR.out.hI (by have:=HSC.out;omega) (by have:=HSC.out;omega) (by have:=HSC.out;omega) hWV
  have bA:Blk V W.heap.size [.int .i64 c,.int .i64 s] 32:=(Blk.new W [.int .i64 c,.int .i64 s] 32).kp hV (fun e=>by have:W.heap.size=Wc.heap.size+1:=e;omega)
  have hsz:W.heap.size<V.heap.size:=bA.lt
  have y0:V.cell? ⟨W.heap.size,0,none⟩=some (.int .i64 c):=bA.cell rfl
  have y1:V.cell? ⟨W.heap.size,1,none⟩=some (.int .i64 s):=bA.cell rfl
  have y2:V.cell? ⟨w.heap.size,0,none⟩=some (.pointer (some ⟨g,0,none⟩)):=hRV.bg.cell rfl
  have HRV:Hid (FcR w Wc g w.heap.size (w.heap.size+1+1) U Z V v):=hRV
  have HBA:Hid (Blk V W.heap.size [.int .i64 c,.int .i64 s] 32):=bA
  have HVS:Hid (W.heap.size<V.heap.size):=hsz
  clear hcont hV hWl hWV hRV bA hsz HR
  gi_wp2_with (fail)
  refine⟨trivial,(callsIn_wide.2 (HHas.out _ HRV.out.kp)).mono ?_⟩
  rintro e V1 ⟨rfl,hk1⟩
  have hb2:Blk V1 (w.heap.size+1+1) [v] 78:=HRV.out.box.kp hk1 (fun x=>x)
  have HB2:Hid (Blk V1 (w.heap.size+1+1) [v] 78):=hb2
  have y0:V1.cell? ⟨W.heap.size,0,none⟩=some (.int .i64 c):=(HBA.out.kp hk1 (fun x=>x)).cell rfl
  have y1:V1.cell? ⟨W.heap.size,1,none⟩=some (.int .i64 s):=(HBA.out.kp hk1 (fun x=>x)).cell rfl
  have y2:V1.cell? ⟨w.heap.size+1+1,0,none⟩=some v:=hb2.cell rfl
  have HK1:Hid (Kp V V1 Nul):=hk1
  clear hk1 hb2 HHas HBA
  cases B with
  | false=>
   have HE:Hid (Kp V V1 Z/\∃Z',(∃v,FcR w Wc g w.heap.size (w.heap.size+1+1) U1 Z' V1 v)/\More Z Z' W):=by
    rw[if_neg Bool.false_ne_true] at HNx
    rw[HNx.out]
    refine⟨HK1.out.of_nul,Z,⟨v,HRV.out.bg.kp HK1.out (fun x=>x),HB2.out,row_kp HRV.out.row HK1.out (fun _ _ e=>e),HRV.out.z,HRV.out.kp.trans HK1.out⟩,fun i q=>.inl q⟩
   gi_wp2_with (fail)
   first
   | exact⟨rfl,HE.out⟩
   | exact HE.out
  | true=>
   obtain⟨pv,nv,cv,rfl⟩:∃p n c,v=.slice p n c:=by
    rcases HRV.out.row.2 with ⟨rfl,_⟩|⟨g,c,cur,rfl,_⟩
    ·exact⟨_,_,_,rfl⟩
    ·exact⟨_,_,_,rfl⟩
   have HRow:Hid ((V1.alloc (.cells #[.int .i64 c,.int .i64 s] 32)).ownsRow (Wc.heap.size+2) 32 2 (.slice pv nv cv) U.length (flatK encA 2 U.toArray).toList):=(row_kp HRV.out.row HK1.out (fun _ _ e=>e)).alloc _
   have HB5:Hid (Blk (V1.alloc (.cells #[.int .i64 c,.int .i64 s] 32)) V1.heap.size [.int .i64 c,.int .i64 s] 32):=Blk.new V1 _ _
   have HU1:Hid (U1=U++[(c,s)]):=by
    rw[if_pos rfl] at HNx
    exact HNx.out
   obtain⟨i0,hi,hz0,hz1,hz2⟩:=infoAddr
   gi_wp2_with (first
    | (refine wpListIn_append_tell _ rfl (.tmp 22) (.tmp 24) 78 rfl (Wc.heap.size+2) 32 i0 _ 2 16 Tryz.underlying78 hi hz0 hz1 hz2 rfl (by decide) (.slice pv nv cv) U.length _ rfl HRow.out ⟨V1.heap.size,0,none⟩ 1 1 (encA (c,s)) rfl rfl ?c1 ?c2 (by decide) ?c3 ?c4 ?c5 ?_)
    | fail)
   case c1=>
    intro j u hj
    rw[addr_at,Nat.zero_add]
    exact HB5.out.cell hj
   case c2=>exact encA_one _
   case c3=>unfold maxLen;have:=HUL.out;omega
   case c4=>have:=HUL.out;omega
   case c5=>rw[World.size_alloc];have h1:=HSW.out;have h2:=HVS.out;have h3:=HK1.out.size;omega
   intro g6 c6 w7 hrow hgr htell
   have hob:=own_block HRV.out.row
   have k17:Kp V1 w7 (fun i=>(Value.slice pv nv cv).ownBlock=some i):=((Kp.refl V1 _).alloc _).trans (Kp.of_grown hgr (fun i e=>e))
   have HK17:Hid (Kp V1 w7 (fun i=>(Value.slice pv nv cv).ownBlock=some i)):=k17
   have HB7:Hid (Blk w7 (w.heap.size+1+1) [.slice pv nv cv] 78):=HB2.out.kp k17 (fun e=>by have h1:=hob _ e;have h2:=HSC.out;omega)
   have HRow7:Hid (w7.ownsRow (Wc.heap.size+2) 32 2 (.slice (some ⟨g6,0,none⟩) (U.length+1) c6) (U.length+1) ((flatK encA 2 U.toArray).toList++encA (c,s))):=hrow
   have HTe:Hid ((Value.slice pv nv cv).ownBlock=some g6∨V1.heap.size<=g6):=htell.imp id (fun q=>by omega)
   clear hrow hgr htell hob k17 HRow HB5 y0 y1 y2 hz0 hz1 hz2 hi
   gi_wp2_with (first
    | (refine storeIn_var rfl 78 (.tmp 5) (.tmp 25) rfl (w.heap.size+1+1) rfl (.slice (some ⟨g6,0,none⟩) (U.length+1) c6) rfl rfl 78 (.slice pv nv cv) HB7.out (by kernel_rfl) ?_;intro X hbX hkX)
    | fail)
   have HE:Kp V X Z/\∃Z',(∃v,FcR w Wc g w.heap.size (w.heap.size+1+1) U1 Z' X v)/\More Z Z' W:=by
    have hob:=own_block HRV.out.row
    have hz:=HRV.out.z
    have kVX:Kp V X Z:=(HK1.out.of_nul.trans (HK17.out.mono (fun i _ e=>(hz i).2 (.inr e)))).trans (hkX.mono (fun i _ e=>(hz i).2 (.inl e)))
    have hsc:=HSC.out
    refine⟨kVX,fun i=>i=w.heap.size+1+1∨(Value.slice (some ⟨g6,0,none⟩) (U.length+1) c6).ownBlock=some i,⟨_,HRV.out.bg.kp kVX (fun q=>?_),hbX,?_,fun i=>Iff.rfl,HRV.out.kp.trans' kVX (fun i hi q=>?_)⟩,fun i q=>?_⟩
    ·rcases(hz _).1 q with e|e
     ·omega
     ·have:=hob _ e;omega
    ·rw[HU1.out,flat_snoc,List.length_append]
     exact row_kp HRow7.out hkX (fun i hi e=>by have:i=w.heap.size+1+1:=e;omega)
    ·rcases(hz _).1 q with e|e
     ·omega
     ·have:=hob _ e;omega
    ·rcases q with q|q
     ·exact .inl ((hz i).2 (.inl q))
     ·have e':g6=i:=by simpa [Value.ownBlock] using q
      subst e'
      rcases HTe.out with q|q
      ·exact .inl ((hz _).2 (.inr q))
      ·exact .inr (by have:=HK1.out.size;have:=HVS.out;omega)
   first
   | exact⟨rfl,HE⟩
   | exact HE
 case hdone=>
  subst hact
  rintro D Z W hD ⟨v,hR⟩ hdef
  have HR:Hid (FcR w Wc g w.heap.size (w.heap.size+1+1) (uK m1 m2 m3 L (szN m1 m2 m3 m4)) Z W v):=hR
  have HDf:Hid (W.heap[D]? = some (.deferred (some []))):=hdef
  obtain⟨hu1,hu2⟩:=HUK.out _ rfl
  have hw:w.heap.size<=D:=by omega
  have HE:Hid (CellsFrom w.heap.size (W.putObj D (.deferred none)) v (uK m1 m2 m3 L (szN m1 m2 m3 m4))/\Strict (uK m1 m2 m3 L (szN m1 m2 m3 m4))/\(∀x,x∈uK m1 m2 m3 L (szN m1 m2 m3 m4)↔∃a,(x,a)∈M)/\Kp w (W.putObj D (.deferred none)) Nul):=by
   have hDr:∀i,v.ownBlock=some i->¬i=D:=fun i e q=>by
    subst q
    rcases hR.row.2 with ⟨rfl,_⟩|⟨g',c',cur,rfl,_,h3,_⟩
    ·cases e
    ·have e':g'=i:=by simpa [Value.ownBlock] using e
     subst e'
     rw[h3] at hdef;cases hdef
   have hrow:(W.putObj D (.deferred none)).ownsRow (Wc.heap.size+2) 32 2 v (uK m1 m2 m3 L (szN m1 m2 m3 m4)).length (flatK encA 2 (uK m1 m2 m3 L (szN m1 m2 m3 m4)).toArray).toList:=by
    refine⟨hR.row.1,?_⟩
    rcases hR.row.2 with q|⟨g',c',cur,e1,e2,e3,rest⟩
    ·exact .inl q
    ·exact .inr ⟨g',c',cur,e1,e2,(World.putObj_heap_other (fun q=>hDr g' (by rw[e1];rfl) q)).trans e3,rest⟩
   exact⟨(own1_from (own1_row rfl hrow)).down (by omega),hu1,hu2,putObj_kp hR.kp hw⟩
  have y2:W.cell? ⟨w.heap.size+1+1,0,none⟩=some v:=hR.box.cell rfl
  clear hR hdef hu1 hu2 HUK hw hp2
  go_wp2_with fail
  refine⟨by simp,.inl ⟨_,_,rfl,run_takeDeferred HDf.out,?_⟩⟩
  refine⟨v,?_,_,v,rfl,HE.out⟩
  rw[results_tmp rfl]
  rfl
theorem filled_any (g:Nat) (m1 m2 m3 m4:Int) (L M:List Cc) (hM:inL m1 m2 m3 m4 L=M) (w:World) (hg:GI 0 w g L) (_:∀x∈L,vC x.1.1 x.1.2=true) (lL:L.length<=4096) :
  Calls Tryz.prog 134 #[.pointer (some ⟨g,0,none⟩),.agg #[.int .i64 m1,.int .i64 m2,.int .i64 m3,.int .i64 m4]] w fun e w'=>∃U v',e=.returned v'/\CellsFrom w.heap.size w' v' U/\Strict U/\(∀x,x∈U↔∃a,(x,a)∈M)/\Kp w w' Nul:=by
 by_cases h:sizeA m1 m2 m3 m4<(L.length:Int)
 ·exact filled_cells g m1 m2 m3 m4 L M hM w hg _ rfl h
 ·exact filled_map g m1 m2 m3 m4 L M hM w hg lL _ rfl h
end Go.Proofs.YtecjfnkakodebaaGreatDoor
namespace Go.Proofs.YtecjfnkakodebaaGreatDoor
open Go.RowKit Go.Maps Go.Sort Go.Lib
theorem within_any (g:Nat) (F:Nat->Prop) (m1 m2 m3 m4:Int) (L M:List Cc) (hM:inL m1 m2 m3 m4 L=M) (w:World) (hg:GI 0 w g L) (hF:GridIn w F g L) (gL:∀x∈L,Gd x.2) (hv:∀x∈L,vC x.1.1 x.1.2=true) (lL:L.length<=4096) :
  Calls Tryz.prog 98 #[.pointer (some ⟨g,0,none⟩),.agg #[.int .i64 m1,.int .i64 m2,.int .i64 m3,.int .i64 m4]] w fun e w'=>∃b ys,e=.returned (.slice (some ⟨b,0,none⟩) ys.length ys.length)/\WiR w w' F M b ys:=by
 obtain⟨mv,bg⟩:=hg.blk
 have k1:Kp w (w.alloc (.cells #[.int .i64 m1,.int .i64 m2,.int .i64 m3,.int .i64 m4] 34)) Nul:=(Kp.refl w Nul).alloc _
 have HFil:Hid (Calls Tryz.prog 134 #[.pointer (some ⟨g,0,none⟩),.agg #[.int .i64 m1,.int .i64 m2,.int .i64 m3,.int .i64 m4]] (w.alloc (.cells #[.int .i64 m1,.int .i64 m2,.int .i64 m3,.int .i64 m4] 34)) fun e w'=>∃U v',e=.returned v'/\CellsFrom w.heap.size w' v' U/\Strict U/\(∀x,x∈U↔∃a,(x,a)∈M)/\Kp w w' Nul):=
  (filled_any g m1 m2 m3 m4 L M hM _ (hg.kp k1) hv lL).mono (by
   rintro e w' ⟨U,v',h1,h2,h3,h4,h5⟩
   exact⟨U,v',h1,h2.down k1.size,h3,h4,k1.trans h5⟩)
 have HI:Hid (∀x∈L,I64 x.1.1/\I64 x.1.2):=by
  obtain⟨_,⟨_,rfl⟩|⟨m,D,_,_,_,_,hm⟩⟩:=hg
  ·intro x hx;simp at hx
  ·exact hm.rng
 have HLook:Hid (∀c s,(∃a,((c,s),a)∈M)->∃a sa,((c,s),a)∈M/\NdIn w F sa a.t/\∀wq,Kp w wq Nul->wq.cell? ⟨g,0,none⟩=some (.map mv)/\(Instr.lookup 94 (.map mv) (.agg #[.int .i64 c,.int .i64 s]) false).run Tryz.prog wq=.ok (a.val sa) wq):=fun c s ⟨a0,h0⟩=>by
  have h0':=inL_sub hM h0
  have hi2:=HI.out _ h0'
  obtain⟨a,sa,bb,hlk,hinA,hax,hao,_,_,hcase⟩:=look_ctF hF gL hi2.1 hi2.2 bg
  rcases hcase with ⟨_,hm⟩|⟨_,_,_,hno⟩
  ·exact⟨a,sa,inL_mem hM hm h0,hinA,fun wq k=>⟨(bg.kp k (fun x=>x)).cell rfl,(lk_kp hlk k).one wq (fun _ _=>rfl)⟩⟩
  ·exact absurd h0' (hno a0)
 have HONCE:Hid (M.Pairwise (fun x y=>x.1≠y.1)):=inL_once hM hg.once
 have hML:M.length<=4096:=Nat.le_trans (inL_len hM) lL
 have HUL:Hid (∀U,Strict U->(∀x,x∈U↔∃a,(x,a)∈M)->U.length<=4096):=fun U h1 h2=>by
  have hnd:U.Nodup:=strict_nodup h1
  have hsub:∀x∈U,x∈(M.map (·.1)):=fun x hx=>by
   obtain⟨a,h⟩:=(h2 x).1 hx
   exact List.mem_map.2 ⟨_,h,rfl⟩
  have:=nodup_le _ _ hnd hsub
  rw[List.length_map] at this
  omega
 clear hg hF gL hv lL bg k1 hM hML
 go_enter Tryz.func98,Tryz.ntmps98
 go_wp2_with fail
 refine HFil.out.mono ?_
 rintro e w2 ⟨U,v2,rfl,⟨ua,uc,rfl,hcell⟩,hst,hmem,hk2⟩
 have HK2:Hid (Kp w w2 Nul):=hk2
 have HST:Hid (Strict U):=hst
 have HMEM:Hid (∀x,x∈U↔∃a,(x,a)∈M):=hmem
 have HLU:Hid (U.length<=4096):=HUL.out U hst hmem
 have HCell:Hid ((ua=none/\U=[])∨∃b,ua=some ⟨b,0,none⟩/\w.heap.size<=b/\CellsAt w2 b 0 U):=hcell
 clear hk2 hst hmem hcell HFil HUL
 generalize hn:U.length=n at *
 have HN:Hid (U.length=n):=hn
 obtain⟨cs,hcs,hmk⟩:=make_puts n (by have:=HLU.out;omega)
 have HCS:Hid (cs.size=n*23):=hcs
 clear hn hcs
 go_wp2_with fail
 clear hmk
 have hW:∃W,w2.alloc (.cells cs 52)=W:=⟨_,rfl⟩
 obtain⟨W,hW⟩:=hW
 rw[hW]
 have HT:Hid (W.there w2.heap.size 0 (n*23)):=by rw[<- hW];exact there_of_block (heap_alloc_new w2 _) 0 (n*23) (by rw[HCS.out];omega)
 have HKW:Hid (Kp w2 W Nul):=by rw[<- hW];exact(Kp.refl w2 Nul).alloc _
 have HBL:Hid (w2.heap.size<W.heap.size):=by rw[<- hW,World.size_alloc];exact Nat.lt_succ_self _
 clear hW
 obtain⟨b,hb⟩:∃b,w2.heap.size=b:=⟨_,rfl⟩
 rw[hb] at HT HBL
 have HB:Hid (w2.heap.size=b):=hb
 rw[hb]
 clear hb HCS
 go_loopw[17] (fun i wr=>∃(q:Nat) (ys:List (Cc×Value)),q<=n/\i=.int .i64 q/\ys.map (·.1.1)=U.take q/\(∀y∈ys,y.1∈M)/\(∀y∈ys,NdIn w F y.2 y.1.2.t)/\(∀i y,ys[i]? = some y->wr.rangeAt b (i*23) (ptCells y.1 y.2))/\wr.there b 0 (n*23)/\Kp W wr (fun i=>i=b)) (fun i _=>n-(RowKit.intOf i).toNat)
 case atStart=>exact⟨0,[],Nat.zero_le _,rfl,rfl,fun y h=>by simp at h,fun y h=>by simp at h,fun i y h=>by simp at h,HT.out,Kp.refl _ _⟩
 case round=>
  obtain⟨q,ys,hq,rfl,hmap,hin,htree,hrng,hth,hkq⟩:=hrel
  have HMAP:Hid (ys.map (·.1.1)=U.take q):=hmap
  have HINL:Hid (∀y∈ys,y.1∈M):=hin
  have HTREE:Hid (∀y∈ys,NdIn w F y.2 y.1.2.t):=htree
  have HRNG:Hid (∀i y,ys[i]? = some y->wr.rangeAt b (i*23) (ptCells y.1 y.2)):=hrng
  have HTH:Hid (wr.there b 0 (n*23)):=hth
  have HKQ:Hid (Kp W wr (fun i=>i=b)):=hkq
  have hysl:ys.length=min q n:=by rw[<- HN.out];have:=congrArg List.length hmap;simpa using this
  have HYL:Hid (ys.length=q):=by show _=_;omega
  have HKR:Hid (Kp w wr Nul):=(HK2.out.trans HKW.out).trans' hkq (fun i hi e=>by have h1:=HK2.out.size;have h2:=HB.out;have:i=b:=e;omega)
  clear hmap hin htree hrng hth hkq hysl
  by_cases hlt:q<n
  ·have hqt:q<U.length:=by rw[HN.out];exact hlt
   obtain⟨bu,rfl,hbw,hca⟩:∃b,ua=some ⟨b,0,none⟩/\w.heap.size<=b/\CellsAt w2 b 0 U:=by
    rcases HCell.out with ⟨_,h⟩|h
    ·rw[h] at hqt;simp at hqt
    ·exact h
   have hbu:bu<b:=by
    have:=cell_lt (hca q U[q] (List.getElem?_eq_getElem hqt)).1
    rw[HB.out] at this;exact this
   obtain⟨x0,x1⟩:=((hca.kp HKW.out (fun x=>x)).kp HKQ.out (fun e=>by have:bu=b:=e;omega)) q U[q] (List.getElem?_eq_getElem hqt)
   obtain⟨⟨c,s⟩,hcs⟩:∃cs,U[q]=cs:=⟨_,rfl⟩
   rw[hcs] at x0 x1
   simp only at x0 x1
   obtain⟨a,sa,hmL,htr,hlk⟩:=HLook.out c s ((HMEM.out _).1 (hcs ▸ List.getElem_mem hqt))
   have HML:Hid (((c,s),a)∈M):=hmL
   have HTR:Hid (NdIn w F sa a.t):=htr
   have HTK:Hid (U.take (q+1)=U.take q++[(c,s)]):=by show _=_;rw[List.take_add_one,List.getElem?_eq_getElem hqt,hcs];rfl
   have hkb:(q:Int)+1<=9223372036854775807:=by have:=HLU.out;omega
   have hq0:(0:Int)<=(q:Int):=by omega
   have hqn:(q:Int)<(n:Int):=by omega
   have x0':wr.cell? ⟨bu,q*2,none⟩=some (.int .i64 c):=by rw[Nat.zero_add] at x0;exact x0
   have x1':wr.cell? ⟨bu,q*2+1,none⟩=some (.int .i64 s):=by rw[Nat.zero_add] at x1;exact x1
   have hA:Blk (wr.alloc (.cells #[.int .i64 c,.int .i64 s] 32)) wr.heap.size [.int .i64 c,.int .i64 s] 32:=Blk.new wr _ _
   have hgc:=hlk _ ((HKR.out.alloc (.cells #[.int .i64 c,.int .i64 s] 32)).drew)
   have HA:Hid (∀wq,Kp (wr.alloc (.cells #[.int .i64 c,.int .i64 s] 32)) wq (fun i=>i=b)->wq.cell? ⟨wr.heap.size,0,none⟩=some (.int .i64 c)/\wq.cell? ⟨wr.heap.size,1,none⟩=some (.int .i64 s)/\wq.cell? ⟨g,0,none⟩=some (.map mv)/\(Instr.lookup 94 (.map mv) (.agg #[.int .i64 c,.int .i64 s]) false).run Tryz.prog wq=.ok (a.val sa) wq):=fun wq k=>by
    have hne:¬(wr.heap.size=b):=fun e=>by have h1:=HKQ.out.size;have h2:=HBL.out;omega
    have hkw:Kp w wq Nul:=(HKR.out.alloc _).trans' k (fun i hi e=>by have h1:=HK2.out.size;have h2:=HB.out;have:i=b:=e;omega)
    exact⟨(hA.kp k hne).cell rfl,(hA.kp k hne).cell rfl,(hlk wq hkw).1,(hlk wq hkw).2⟩
   clear hca hcs hqt x0 x1 hbw hA hlk hmL htr hbu hgc
   go_wp2_with fail
   clear x0' x1'
   refine wp_region_noPanic ?_
   refine wp_region_hel (fun w':World=>w'.cell? ⟨wr.heap.size,0,none⟩=some (.int .i64 c)/\w'.cell? ⟨wr.heap.size,1,none⟩=some (.int .i64 s)/\w'.cell? ⟨g,0,none⟩=some (.map mv)/\(Instr.lookup 94 (.map mv) (.agg #[.int .i64 c,.int .i64 s]) false).run Tryz.prog w'=.ok (a.val sa) w') (by kernel_rfl) (HA.out _ ((Kp.refl _ _).drew)) (fun hHeld=>?_)
   refine wpH_takes (i:=0) (v:=?_) (some 22) rfl rfl (by kernel_rfl) (fun _ _ _ h=>h) (Or.inl ⟨by rfl,?_⟩) hHeld ?_
   rotate_left
   ·intro w' hSw;obtain⟨s0,s1,s2,s3⟩:=hSw;go_simp;try with_reducible rfl
   simp only[Act.put,Sz0,Sz1,Sz2]
   refine wpH_takes (i:=1) (v:=?_) (some 23) rfl rfl (by kernel_rfl) (fun _ _ _ h=>h) (Or.inl ⟨by rfl,?_⟩) hHeld ?_
   rotate_left
   ·intro w' hSw;obtain⟨s0,s1,s2,s3⟩:=hSw;go_simp;try with_reducible rfl
   simp only[Act.put,Sz0,Sz1,Sz2]
   refine wpH_takes (i:=2) (v:=?_) (some 24) rfl rfl (by kernel_rfl) (fun _ _ _ h=>h) (Or.inl ⟨by rfl,?_⟩) hHeld ?_
   rotate_left
   ·intro w' hSw;obtain⟨s0,s1,s2,s3⟩:=hSw;go_simp;try with_reducible rfl
   simp only[Act.put,Sz0,Sz1,Sz2]
   refine wpH_takes (i:=3) (v:=?_) (some 25) rfl rfl (by kernel_rfl) (fun _ _ _ h=>h) (Or.inl ⟨by rfl,?_⟩) hHeld ?_
   rotate_left
   ·intro w' hSw;obtain⟨s0,s1,s2,s3⟩:=hSw;go_simp;try with_reducible rfl
   simp only[Act.put,Sz0,Sz1,Sz2]
   refine wpH_takes (i:=4) (v:=?_) (some 26) rfl rfl (by kernel_rfl) (fun _ _ _ h=>h) (Or.inl ⟨by rfl,?_⟩) hHeld ?_
   rotate_left
   ·intro w' hSw;obtain⟨s0,s1,s2,s3⟩:=hSw;go_simp;try with_reducible rfl
   simp only[Act.put,Sz0,Sz1,Sz2]
   refine wpH_takes (i:=5) (v:=?_) (some 27) rfl rfl (by kernel_rfl) (fun _ _ _ h=>h) (Or.inl ⟨by rfl,?_⟩) hHeld ?_
   rotate_left
   ·intro w' hSw;obtain⟨s0,s1,s2,s3⟩:=hSw;go_simp;try with_reducible rfl
   simp only[Act.put,Sz0,Sz1,Sz2]
   refine wpH_takes (i:=6) (v:=?_) (some 28) rfl rfl (by kernel_rfl) (fun _ _ _ h=>h) (Or.inl ⟨by rfl,?_⟩) hHeld ?_
   rotate_left
   ·intro w' hSw;obtain⟨s0,s1,s2,s3⟩:=hSw;go_simp;try with_reducible rfl
   simp only[Act.put,Sz0,Sz1,Sz2]
   refine wpH_takes (i:=7) (v:=?_) (some 29) rfl rfl (by kernel_rfl) (fun _ _ _ h=>h) (Or.inl ⟨by rfl,?_⟩) hHeld ?_
   rotate_left
   ·intro w' hSw;obtain⟨s0,s1,s2,s3⟩:=hSw;go_simp;try with_reducible rfl
   simp only[Act.put,Sz0,Sz1,Sz2]
   refine wpH_takes (i:=8) (v:=?_) (some 30) rfl rfl (by kernel_rfl) (fun _ _ _ h=>h) (Or.inl ⟨by rfl,?_⟩) hHeld ?_
   rotate_left
   ·intro w' hSw;obtain⟨s0,s1,s2,s3⟩:=hSw;go_simp;try with_reducible rfl
   simp only[Act.put,Sz0,Sz1,Sz2]
   refine wpH_takes (i:=9) (v:=?_) (some 31) rfl rfl (by kernel_rfl) (fun _ _ _ h=>h) (Or.inl ⟨by rfl,?_⟩) hHeld ?_
   rotate_left
   ·intro w' hSw;obtain⟨s0,s1,s2,s3⟩:=hSw;go_simp;try with_reducible rfl
   simp only[Act.put,Sz0,Sz1,Sz2]
   refine wpH_takes (i:=10) (v:=?_) (some 32) rfl rfl (by kernel_rfl) (fun _ _ _ h=>h) (Or.inl ⟨by rfl,?_⟩) hHeld ?_
   rotate_left
   ·intro w' hSw;obtain⟨s0,s1,s2,s3⟩:=hSw;go_simp;try with_reducible rfl
   simp only[Act.put,Sz0,Sz1,Sz2]
   refine wpH_step (i:=11) (by kernel_rfl) rfl rfl (fun K hK=>?_)
   have T5:Hid ((wr.alloc (.cells #[.int .i64 c,.int .i64 s] 32)).drew.there b (q*23) 23):=by
    have h1:=World.there_alloc HTH.out (.cells #[.int .i64 c,.int .i64 s] 32)
    intro j hj
    have:=h1 (q*23+j) (by omega)
    rw[Nat.zero_add] at this
    exact this
   have O5:Hid ((ptCells ((c,s),a) sa).toArray.all (·.oneCell')=true):=all_oneCell_toArray (pt_one _ HTR.out.one)
   refine wp_store_mid 52 (.tmp 32) (.tmp 31) rfl b (q*23) (ptCells ((c,s),a) sa).toArray rfl rfl T5.out infoPut O5.out ?_
   obtain⟨W6,hW6⟩:∃W6,(wr.alloc (.cells #[.int .i64 c,.int .i64 s] 32)).drew.setCells b (q*23) (ptCells ((c,s),a) sa)=W6:=⟨_,rfl⟩
   have k6:Kp (wr.alloc (.cells #[.int .i64 c,.int .i64 s] 32)) W6 (fun i=>i=b):=(Kp.refl _ _).drew.trans (hW6 ▸ setCells_kp (fun i=>i=b) rfl _ _ _)
   have HK6:Hid (Kp W W6 (fun i=>i=b)):=(HKQ.out.alloc _).trans k6
   have HR6:Hid (∀i y,(ys++[(((c,s),a),sa)])[i]? = some y->W6.rangeAt b (i*23) (ptCells y.1 y.2)):=put_rng (fun y:Cc×Value=>ptCells y.1 y.2) (fun y=>pt_len y.1 y.2) hW6 HYL.out T5.out (fun i y hy=>rangeAt_alloc (HRNG.out i y hy) _)
   have HT6:Hid (W6.there b 0 (n*23)):=there_sets HTH.out hW6
   have HM6:Hid ((ys++[(((c,s),a),sa)]).map (·.1.1)=U.take (q+1)):=by show _=_;rw[List.map_append,HMAP.out,HTK.out];rfl
   have HL6:Hid (∀y∈ys++[(((c,s),a),sa)],y.1∈M):=fun y hy=>by
    rcases List.mem_append.1 hy with hy|hy
    ·exact HINL.out y hy
    ·rw[List.mem_singleton] at hy
     subst hy
     exact HML.out
   have HTR6:Hid (∀y∈ys++[(((c,s),a),sa)],NdIn w F y.2 y.1.2.t):=fun y hy=>by
    rcases List.mem_append.1 hy with hy|hy
    ·exact HTREE.out y hy
    ·rw[List.mem_singleton] at hy
     subst hy
     exact HTR.out
   have hS6:=HA.out W6 k6
   show K _ ((wr.alloc (.cells #[.int .i64 c,.int .i64 s] 32)).drew.setCells b (q*23) (ptCells ((c,s),a) sa))
   rw[hW6]
   refine hK.out _ _ hS6 (fun _=>?_)
   clear hK K k6 hW6 hS6 T5 O5 HA hHeld
   refine wpAnyH_done (by kernel_rfl) ?_ _
   refine NoPanic.normal ?_
   go_wp2_with fail
   go_roundw
   case rel=>exact⟨q+1,_,by omega,by go_num,HM6.out,HL6.out,HTR6.out,HR6.out,HT6.out,HK6.out⟩
   case measure=>simp only[RowKit.intOf];omega
  ·have hqe:q=n:=by omega
   subst hqe
   have hqn:¬((q:Int)<(q:Int)):=by omega
   have hall:U.take q=U:=by rw[List.take_of_length_le (by rw[HN.out];exact Nat.le_refl _)]
   have HEND:Hid (WiR w wr F M b ys):=by
    refine⟨by have:=HK2.out.size;have:=HB.out;omega,HRNG.out,?_,fun x=>⟨fun h=>?_,fun h=>?_⟩,fun y hy=>(HTREE.out y hy).kp HKR.out (fun _ _ x=>x),HKR.out⟩
    ·rw[HMAP.out,hall];exact HST.out
    ·obtain⟨y,hy,rfl⟩:=List.mem_map.1 h
     exact HINL.out y hy
    ·have h1:x.1∈ys.map (·.1.1):=by rw[HMAP.out,hall];exact(HMEM.out x.1).2 ⟨x.2,h⟩
     obtain⟨y,hy,e⟩:=List.mem_map.1 h1
     have h2:=HINL.out y hy
     refine List.mem_map.2 ⟨y,hy,Prod.ext e ?_⟩
     have h3:(x.1,y.1.2)∈M:=by rw[<- e];exact h2
     exact(once_eq HONCE.out h3 h)
   have HYQ:Hid (ys.length=q):=HYL.out
   clear HRNG HMAP HTREE HINL hall
   go_wp2_with fail
   go_ret
   exact⟨b,ys,by rw[HYQ.out];rfl,HEND.out⟩
end Go.Proofs.YtecjfnkakodebaaGreatDoor
namespace Go.Proofs.YtecjfnkakodebaaGreatDoor
open Go.RowKit Go.Maps Go.Sort Go.Lib Go.Shelf
attribute [local go_sem] Oper.semAt_some
structure InF (W:World) (F:Nat->Prop) (b:Nat) (ys:List (Cc×Value)) (Z:Nat->Prop) (wr:World):Prop where
 nz:¬Z b
 rng:∀(i:Nat) y,ys[i]? = some y->wr.rangeAt b (i*23) (ptCells y.1 y.2)
 tree:∀y∈ys,NdIn wr F y.2 y.1.2.t
 size:W.heap.size<=wr.heap.size
theorem in1_any (g x0 x1:Nat) (F:Nat->Prop) (m1 m2 m3 m4:Int) (L M K:List Cc) (hM:inL m1 m2 m3 m4 L=M) (w:World) (S:Nat->Prop) (hg:GI 0 w g L) (hF:GridIn w F g L) (gL:∀x∈L,Gd x.2) (hv:∀x∈L,vC x.1.1 x.1.2=true) (lL:L.length<=4096)
  (hK:Strict (K.map (·.1))) (hKL:∀x,x∈K↔x∈M) (hA:∀i,F i->i<w.heap.size) (hS:∀i,S i->¬F i) (b0:Blk w x0 [.pointer (some ⟨g,0,none⟩)] 24) (b1:Blk w x1 [.int .i64 m1,.int .i64 m2,.int .i64 m3,.int .i64 m4] 34) :
  SeqOw3 Tryz.prog 97 #[.pointer (some ⟨x0,0,none⟩),.pointer (some ⟨x1,0,none⟩)] encQ wtQ (TellQ w K) K.length S w:=by
 intro J Jx Z W hkw hsz hJ _ hJz hY hj0
 have c0:W.cell? ⟨x0,0,none⟩=some (.pointer (some ⟨g,0,none⟩)):=(b0.kp hkw (fun x=>x)).cell rfl
 have d0:W.cell? ⟨x1,0,none⟩=some (.int .i64 m1):=(b1.kp hkw (fun x=>x)).cell rfl
 have d1:W.cell? ⟨x1,1,none⟩=some (.int .i64 m2):=(b1.kp hkw (fun x=>x)).cell rfl
 have d2:W.cell? ⟨x1,2,none⟩=some (.int .i64 m3):=(b1.kp hkw (fun x=>x)).cell rfl
 have d3:W.cell? ⟨x1,3,none⟩=some (.int .i64 m4):=(b1.kp hkw (fun x=>x)).cell rfl
 have HWi:Hid (Calls Tryz.prog 98 #[.pointer (some ⟨g,0,none⟩),.agg #[.int .i64 m1,.int .i64 m2,.int .i64 m3,.int .i64 m4]] W fun e w'=>∃b ys,e=.returned (.slice (some ⟨b,0,none⟩) ys.length ys.length)/\WiR W w' F M b ys):=within_any g _ m1 m2 m3 m4 L M hM W (hg.kp hkw) (hF.kp hkw) gL hv lL
 have HSZ:Hid (w.heap.size+2<=W.heap.size):=hsz
 have HJ:Hid (∀k Z W W',J k Z W->Kp W W' Nul->J k Z W'):=hJ
 have HJZ:Hid (∀k Z W,J k Z W->(∀i,Z i->i<W.heap.size)/\∀i,i<w.heap.size->Z i->S i):=hJz
 have HY:Hid (∀m k x Z W1,k<K.length->J k Z W1->TellQ w K k x Z W1->YieldAt Fence.wide m Tryz.prog (w.heap.size+1) (encQ x) W1 fun e W'=>(e=.returned (.bool true)/\(∃Z',J (k+1) Z' W'/\More Z Z' W1)/\Kp W1 W' (fun i=>(Z i∨wtQ x i)∨i=w.heap.size+1))∨(e=.returned (.bool false)/\Jx W')):=hY
 have HJ0:Hid (J 0 Z W):=hj0
 have HGd:Hid (∀x∈M,Gd x.2):=fun x hx=>gL x (inL_sub hM hx)
 have HA:Hid (∀i,F i->i<w.heap.size):=hA
 have HS:Hid (∀i,S i->¬F i):=hS
 have HKK:Hid (∀ys:List (Cc×Value),Strict (ys.map (·.1.1))->(∀x,x∈ys.map (·.1)↔x∈M)->ys.map (·.1)=K):=fun ys h1 h2=>same_in_order (by rw[List.map_map];exact h1) hK (fun x=>(h2 x).trans (hKL x).symm)
 have HLK:Hid (K.length<=4096):=by
  have hnd:(K.map (·.1)).Nodup:=strict_nodup hK
  have:=nodup_le _ (M.map (·.1)) hnd (fun x hx=>by
   obtain⟨y,hy,rfl⟩:=List.mem_map.1 hx
   exact List.mem_map.2 ⟨y,(hKL y).1 hy,rfl⟩)
  rw[List.length_map,List.length_map] at this
  have:=inL_len hM
  show _<=_;omega
 clear hkw hsz hJ hJz hY hj0 hg hF gL hv lL hK hKL hA hS b0 b1 hM
 simp only[List.append_toArray,List.cons_append,List.nil_append]
 refine(callsIn_wide (n:=8)).1 ?_
 refine callsIn_of_wp Tryz.func97 rfl trivial ?_ rfl
 simp only[Tryz.ntmps97,List.size_toArray,List.length_cons,List.length_nil,Nat.reduceAdd,Nat.reduceSub,Array.replicate_succ,Array.replicate_zero,List.push_toArray,List.append_toArray,List.nil_append,List.cons_append]
 gi_wp2_with (fail)
 refine⟨trivial,(callsIn_wide.2 HWi.out).mono ?_⟩
 rintro e w2 ⟨b,ys,rfl,hwi⟩
 have HW2:Hid (WiR W w2 F M b ys):=hwi
 have HYK:Hid (ys.map (·.1)=K):=HKK.out ys hwi.strict hwi.mem
 have hlen:ys.length=K.length:=by rw[<- HYK.out,List.length_map]
 clear hwi c0 d0 d1 d2 d3 HKK
 rw[hlen]
 generalize hn:K.length=n at *
 have HLEN:Hid (ys.length=n):=hlen
 have HN:Hid (K.length=n):=hn
 clear hn hlen
 gi_wp2_with (fail)
 gi_loopw [12] (fun i wr=>∃(q:Nat) (Z:Nat->Prop),q<=n/\i=.int .i64 q/\J q Z wr/\InF W F b ys Z wr) (fun i _=>n-(RowKit.intOf i).toNat)
 case atStart=>
  refine⟨0,Z,Nat.zero_le _,rfl,HJ.out _ _ _ _ HJ0.out HW2.out.kp,?_⟩
  exact⟨fun h=>by have h1:=(HJZ.out _ _ _ HJ0.out).1 b h;have h2:=HW2.out.low;omega,HW2.out.rng,HW2.out.tree,HW2.out.kp.size⟩
 case round=>
  obtain⟨q,Zq,hq,rfl,hjq,hin⟩:=hrel
  have HJQ:Hid (J q Zq wr):=hjq
  have HIN:Hid (InF W F b ys Zq wr):=hin
  clear hjq hin
  by_cases hlt:q<n
  ·have hqt:q<ys.length:=by rw[HLEN.out];exact hlt
   obtain⟨⟨⟨⟨c,s⟩,a⟩,sa⟩,hys⟩:∃y,ys[q]=y:=⟨_,rfl⟩
   have hget:ys[q]? = some (((c,s),a),sa):=by rw[List.getElem?_eq_getElem hqt,hys]
   have HR:Hid (wr.rangeAt b (q*23) (ptCells ((c,s),a) sa)):=HIN.out.rng q _ hget
   have htree:NdIn wr F sa a.t:=HIN.out.tree _ (List.mem_of_getElem? hget)
   have O1:Hid (sa.oneCell'=true):=htree.one
   have hKq:K[q]? = some ((c,s),a):=by rw[<- HYK.out,List.getElem?_map,hget];rfl
   have HKQ:Hid (K[q]? = some ((c,s),a)):=hKq
   have hgd:Gd a:=HGd.out _ ((HW2.out.mem _).1 (List.mem_map.2 ⟨_,List.mem_of_getElem? hget,rfl⟩))
   have hbl:b<wr.heap.size:=rangeAt_lt HR.out
   have HBL:Hid (b<wr.heap.size):=hbl
   have B5:Blk (wr.alloc (.cells (ptCells ((c,s),a) sa).toArray 52)) wr.heap.size (ptCells ((c,s),a) sa) 52:=Blk.new wr _ _
   have HAt:Hid (∀wq,Kp (wr.alloc (.cells (ptCells ((c,s),a) sa).toArray 52)) wq Nul->wq.rangeAt wr.heap.size 0 [.int .i64 c,.int .i64 s]):=fun wq k j v hj=>by
    match j,hj with
    | 0,hj=>cases hj;exact(B5.kp k (fun x=>x)).cell rfl
    | 1,hj=>cases hj;exact(B5.kp k (fun x=>x)).cell rfl
   have HCo:Hid (∀wq,Kp (wr.alloc (.cells (ptCells ((c,s),a) sa).toArray 52)) wq Nul->wq.rangeAt wr.heap.size 2 (a.cells sa)):=fun wq k j v hj=>by
    refine(B5.kp k (fun x=>x)).cell ?_
    show (ptCells ((c,s),a) sa)[2+j]? = some v
    rw[Nat.add_comm 2 j];exact hj
   have HCp:Hid (∀wq,Kp (wr.alloc (.cells (ptCells ((c,s),a) sa).toArray 52)) wq Nul->Calls Tryz.prog 47 #[.agg (a.cells sa).toArray] wq fun e w'=>∃sl',e=.returned (.agg (a.cells sl').toArray)/\(∃fp,Own w' wq.heap.size sl' a.t fp)/\Kp wq w' Nul):=fun wq k=>by
    have hk:Kp wr wq Nul:=((Kp.refl wr Nul).alloc _).trans k
    refine(gCopy_at a sa F wq hgd.x hgd.size hgd.ok (htree.kp hk (fun _ _ x=>x))).mono ?_
    rintro e w' ⟨sl',fp,rfl,h1,h2⟩
    rw[hgd.cp] at h1 ⊢
    exact⟨sl',rfl,⟨fp,h1⟩,Kp.of_below h2⟩
   have hkb:(q:Int)+1<=9223372036854775807:=by have:=HLK.out;omega
   have hq0:(0:Int)<=(q:Int):=by omega
   have hqn:(q:Int)<(n:Int):=by omega
   clear hqt hys hget htree hKq hgd hbl B5
   gi_wp2_with (first
    | (refine loadIn_put rfl (.tmp 14) rfl b (q*23) rfl (ptCells ((c,s),a) sa) HR.out rfl ?_)
    | (refine storeIn_new' rfl 52 (.tmp 5) (.tmp 15) rfl _ _ _ _ (by first|rfl|simp) rfl rfl rfl infoPut (all_oneCell_toArray (pt_one _ O1.out)) ?_)
    | fail)
   refine regIn_noPanic ?_
   refine wpIn_region_any (by kernel_rfl) ?_
   refine any_take (i:=0) (.func (.yield (w.heap.size+1)) #[] #[]) (some 16) rfl rfl (by kernel_rfl) (by kernel_rfl) (by kernel_rfl) (fun _ _ _ h=>h) rfl (fun _=>rfl) (fun _=>by go_simp) ?_
   simp only[Act.put,Sz0,Sz1,Sz2]
   refine any_take (i:=1) (.pointer (some ⟨wr.heap.size,0,none⟩)) (some 17) rfl rfl (by kernel_rfl) (by kernel_rfl) (by kernel_rfl) (fun _ _ _ h=>h) rfl (fun _=>rfl) (fun _=>by go_simp) ?_
   simp only[Act.put,Sz0,Sz1,Sz2]
   refine any_take (i:=3) (.pointer (some ⟨wr.heap.size,2,none⟩)) (some 19) rfl rfl (by kernel_rfl) (by kernel_rfl) (by kernel_rfl) (fun _ _ _ h=>h) rfl (fun _=>rfl) (fun _=>by go_simp) ?_
   simp only[Act.put,Sz0,Sz1,Sz2]
   refine wpAnyIn_ready (rs:=[2,4]) (by kernel_rfl) (by simp) ?_
   intro i hi
   rcases List.mem_cons.1 hi with rfl|hi
   ·clear hi
    refine any_val (v:=.agg #[.int .i64 c,.int .i64 s]) (some 18) rfl rfl rfl rfl (fun c h=>by cases h) (w':=(wr.alloc (.cells (ptCells ((c,s),a) sa).toArray 52)).drew) (exec_load_row 32 (.tmp 17) rfl wr.heap.size 0 rfl [.int .i64 c,.int .i64 s] _ (HAt.out (wr.alloc (.cells (ptCells ((c,s),a) sa).toArray 52)).drew ((Kp.refl _ _).drew)) Tryz.underlying32 rfl infoAddr2) ?_
    simp only[Act.put,Sz0,Sz1,Sz2]
    refine wpAnyIn_ready (rs:=[4]) (by kernel_rfl) (by simp) ?_
    intro i hi
    obtain rfl:=List.mem_singleton.1 hi
    clear hi
    refine any_val (v:=.agg (a.cells sa).toArray) (some 20) rfl rfl rfl rfl (fun c h=>by cases h) (w':=(wr.alloc (.cells (ptCells ((c,s),a) sa).toArray 52)).drew) (exec_load_row 50 (.tmp 19) rfl wr.heap.size 2 rfl (a.cells sa) _ (HCo.out _ ((Kp.refl _ _).drew)) Tryz.underlying50 rfl infoContent) ?_
    simp only[Act.put,Sz0,Sz1,Sz2]
    refine wpAnyIn_ready (rs:=[5]) (by kernel_rfl) (by simp) ?_
    intro i hi
    obtain rfl:=List.mem_singleton.1 hi
    clear hi
    refine any_call (f:=47) (args:=#[.agg (a.cells sa).toArray]) (some 21) rfl rfl rfl (by decide) (fun c h=>by cases h) (w':=(wr.alloc (.cells (ptCells ((c,s),a) sa).toArray 52)).drew) (by go_simp) ?_
    refine(HCp.out _ ((Kp.refl _ _).drew)).mono ?_
    rintro e w4 ⟨s4,rfl,⟨f4,ho4⟩,hk4⟩
    refine⟨_,rfl,?_⟩
    simp only[Act.put,Sz0,Sz1,Sz2]
    refine wpAnyIn_ready (rs:=[6]) (by kernel_rfl) (by simp) ?_
    intro i hi
    obtain rfl:=List.mem_singleton.1 hi
    clear hi
    have hK4:Kp wr w4 Nul:=((Kp.refl wr Nul).alloc _).drew.trans hk4
    have hs5:(wr.alloc (.cells (ptCells ((c,s),a) sa).toArray 52)).drew.heap.size=wr.heap.size+1:=World.size_alloc _ _
    obtain⟨fn,tms,asg,bod,hy,hR⟩:=HY.out 7 q ((((c,s),a),s4),f4) Zq w4 hlt (HJ.out _ _ _ _ HJQ.out hK4) ⟨HKQ.out,ho4.own,ho4.nodup,fun i hi=>by
     have h1:=(ho4.new i hi).1
     have h2:=HSZ.out
     have h3:=HIN.out.size
     exact⟨by omega,fun hz=>by have:=(HJZ.out _ _ _ HJQ.out).1 i hz;omega⟩⟩
    refine any_round (l:=w.heap.size+1) (f:=fn) (tms:=tms) (asg:=asg) (bod:=bod) (some 22) rfl rfl rfl (by decide) (fun c h=>by cases h) (w':=w4) ?_ ?_
    ·first
     | (go_simp;done)
     | (go_simp;exact hy)
    refine hR.mono ?_
    rintro e w6 (⟨rfl,⟨Z6,hj6,hm6⟩,hk6⟩|⟨rfl,hx6⟩)
    rotate_left
    ·have HX6:Hid (Jx w6):=hx6
     refine⟨_,rfl,?_⟩
     simp only[Act.put,Sz0,Sz1,Sz2]
     clear hy hR hx6 hk4 ho4 hK4 hs5
     refine wpAnyIn_ready (rs:=[7]) (by kernel_rfl) (by simp) ?_
     intro i hi
     obtain rfl:=List.mem_singleton.1 hi
     clear hi
     refine any_val (v:=.bool true) (some 23) rfl rfl rfl rfl (fun c h=>by cases h) (w':=w6) (by go_simp) ?_
     simp only[Act.put,Sz0,Sz1,Sz2]
     refine wpAnyIn_done (by kernel_rfl) ?_ _
     refine NoPanic.normal ?_
     gi_wp2_with (fail)
     refine bodyPost_ret (res_noneI rfl _ _) rfl ?_
     exact⟨⟨_,rfl⟩,.inr HX6.out⟩
    refine⟨_,rfl,?_⟩
    simp only[Act.put,Sz0,Sz1,Sz2]
    have HJ6:Hid (J (q+1) Z6 w6):=hj6
    have HIN6:Hid (InF W F b ys Z6 w6):=by
     have k6:Kp wr w6 (fun i=>(Zq i∨i∈f4)∨i=w.heap.size+1):=hK4.of_nul.trans hk6
     have hbl:=HBL.out
     have hb2:=HW2.out.low
     have hb3:=HSZ.out
     refine⟨fun hz=>?_,fun i y hy=>rangeAt_kp (HIN.out.rng i y hy) k6 (fun e=>?_),fun y hy=>(HIN.out.tree y hy).kp k6 (fun i hi e=>?_),Nat.le_trans HIN.out.size k6.size⟩
     ·rcases hm6 b hz with h|h
      ·exact HIN.out.nz h
      ·have h1:=HBL.out
       have h2:=hK4.size
       omega
     ·rcases e with (e|e)|e
      ·exact HIN.out.nz e
      ·have:=(ho4.new _ e).1;omega
      ·omega
     ·have hi':=HA.out i hi
      rcases e with (e|e)|e
      ·exact HS.out i ((HJZ.out _ _ _ HJQ.out).2 i (by omega) e) hi
      ·have:=(ho4.new _ e).1;have:=HIN.out.size;omega
      ·omega
    clear hy hR hj6 hm6 hk6 hk4 ho4 hK4 hs5
    refine wpAnyIn_ready (rs:=[7]) (by kernel_rfl) (by simp) ?_
    intro i hi
    obtain rfl:=List.mem_singleton.1 hi
    clear hi
    refine any_val (v:=.bool false) (some 23) rfl rfl rfl rfl (fun c h=>by cases h) (w':=w6) (by go_simp) ?_
    simp only[Act.put,Sz0,Sz1,Sz2]
    refine wpAnyIn_done (by kernel_rfl) ?_ _
    refine NoPanic.normal ?_
    gi_wp2_with (fail)
    exact⟨⟨q+1,Z6,by omega,by go_num,HJ6.out,HIN6.out⟩,by simp only[RowKit.intOf];omega⟩
   ·obtain rfl:=List.mem_singleton.1 hi
    clear hi
    refine any_val (v:=.agg (a.cells sa).toArray) (some 20) rfl rfl rfl rfl (fun c h=>by cases h) (w':=(wr.alloc (.cells (ptCells ((c,s),a) sa).toArray 52)).drew) (exec_load_row 50 (.tmp 19) rfl wr.heap.size 2 rfl (a.cells sa) _ (HCo.out _ ((Kp.refl _ _).drew)) Tryz.underlying50 rfl infoContent) ?_
    simp only[Act.put,Sz0,Sz1,Sz2]
    refine wpAnyIn_ready (rs:=[2,5]) (by kernel_rfl) (by simp) ?_
    intro i hi
    rcases List.mem_cons.1 hi with rfl|hi
    ·clear hi
     refine any_val (v:=.agg #[.int .i64 c,.int .i64 s]) (some 18) rfl rfl rfl rfl (fun c h=>by cases h) (w':=(wr.alloc (.cells (ptCells ((c,s),a) sa).toArray 52)).drew) (exec_load_row 32 (.tmp 17) rfl wr.heap.size 0 rfl [.int .i64 c,.int .i64 s] _ (HAt.out (wr.alloc (.cells (ptCells ((c,s),a) sa).toArray 52)).drew ((Kp.refl _ _).drew)) Tryz.underlying32 rfl infoAddr2) ?_
     simp only[Act.put,Sz0,Sz1,Sz2]
     refine wpAnyIn_ready (rs:=[5]) (by kernel_rfl) (by simp) ?_
     intro i hi
     obtain rfl:=List.mem_singleton.1 hi
     clear hi
     refine any_call (f:=47) (args:=#[.agg (a.cells sa).toArray]) (some 21) rfl rfl rfl (by decide) (fun c h=>by cases h) (w':=(wr.alloc (.cells (ptCells ((c,s),a) sa).toArray 52)).drew) (by go_simp) ?_
     refine(HCp.out _ ((Kp.refl _ _).drew)).mono ?_
     rintro e w4 ⟨s4,rfl,⟨f4,ho4⟩,hk4⟩
     refine⟨_,rfl,?_⟩
     simp only[Act.put,Sz0,Sz1,Sz2]
     refine wpAnyIn_ready (rs:=[6]) (by kernel_rfl) (by simp) ?_
     intro i hi
     obtain rfl:=List.mem_singleton.1 hi
     clear hi
     have hK4:Kp wr w4 Nul:=((Kp.refl wr Nul).alloc _).drew.trans hk4
     have hs5:(wr.alloc (.cells (ptCells ((c,s),a) sa).toArray 52)).drew.heap.size=wr.heap.size+1:=World.size_alloc _ _
     obtain⟨fn,tms,asg,bod,hy,hR⟩:=HY.out 7 q ((((c,s),a),s4),f4) Zq w4 hlt (HJ.out _ _ _ _ HJQ.out hK4) ⟨HKQ.out,ho4.own,ho4.nodup,fun i hi=>by
      have h1:=(ho4.new i hi).1
      have h2:=HSZ.out
      have h3:=HIN.out.size
      exact⟨by omega,fun hz=>by have:=(HJZ.out _ _ _ HJQ.out).1 i hz;omega⟩⟩
     refine any_round (l:=w.heap.size+1) (f:=fn) (tms:=tms) (asg:=asg) (bod:=bod) (some 22) rfl rfl rfl (by decide) (fun c h=>by cases h) (w':=w4) ?_ ?_
     ·first
      | (go_simp;done)
      | (go_simp;exact hy)
     refine hR.mono ?_
     rintro e w6 (⟨rfl,⟨Z6,hj6,hm6⟩,hk6⟩|⟨rfl,hx6⟩)
     rotate_left
     ·have HX6:Hid (Jx w6):=hx6
      refine⟨_,rfl,?_⟩
      simp only[Act.put,Sz0,Sz1,Sz2]
      clear hy hR hx6 hk4 ho4 hK4 hs5
      refine wpAnyIn_ready (rs:=[7]) (by kernel_rfl) (by simp) ?_
      intro i hi
      obtain rfl:=List.mem_singleton.1 hi
      clear hi
      refine any_val (v:=.bool true) (some 23) rfl rfl rfl rfl (fun c h=>by cases h) (w':=w6) (by go_simp) ?_
      simp only[Act.put,Sz0,Sz1,Sz2]
      refine wpAnyIn_done (by kernel_rfl) ?_ _
      refine NoPanic.normal ?_
      gi_wp2_with (fail)
      refine bodyPost_ret (res_noneI rfl _ _) rfl ?_
      exact⟨⟨_,rfl⟩,.inr HX6.out⟩
     refine⟨_,rfl,?_⟩
     simp only[Act.put,Sz0,Sz1,Sz2]
     have HJ6:Hid (J (q+1) Z6 w6):=hj6
     have HIN6:Hid (InF W F b ys Z6 w6):=by
      have k6:Kp wr w6 (fun i=>(Zq i∨i∈f4)∨i=w.heap.size+1):=hK4.of_nul.trans hk6
      have hbl:=HBL.out
      have hb2:=HW2.out.low
      have hb3:=HSZ.out
      refine⟨fun hz=>?_,fun i y hy=>rangeAt_kp (HIN.out.rng i y hy) k6 (fun e=>?_),fun y hy=>(HIN.out.tree y hy).kp k6 (fun i hi e=>?_),Nat.le_trans HIN.out.size k6.size⟩
      ·rcases hm6 b hz with h|h
       ·exact HIN.out.nz h
       ·have h1:=HBL.out
        have h2:=hK4.size
        omega
      ·rcases e with (e|e)|e
       ·exact HIN.out.nz e
       ·have:=(ho4.new _ e).1;omega
       ·omega
      ·have hi':=HA.out i hi
       rcases e with (e|e)|e
       ·exact HS.out i ((HJZ.out _ _ _ HJQ.out).2 i (by omega) e) hi
       ·have:=(ho4.new _ e).1;have:=HIN.out.size;omega
       ·omega
     clear hy hR hj6 hm6 hk6 hk4 ho4 hK4 hs5
     refine wpAnyIn_ready (rs:=[7]) (by kernel_rfl) (by simp) ?_
     intro i hi
     obtain rfl:=List.mem_singleton.1 hi
     clear hi
     refine any_val (v:=.bool false) (some 23) rfl rfl rfl rfl (fun c h=>by cases h) (w':=w6) (by go_simp) ?_
     simp only[Act.put,Sz0,Sz1,Sz2]
     refine wpAnyIn_done (by kernel_rfl) ?_ _
     refine NoPanic.normal ?_
     gi_wp2_with (fail)
     exact⟨⟨q+1,Z6,by omega,by go_num,HJ6.out,HIN6.out⟩,by simp only[RowKit.intOf];omega⟩
    ·obtain rfl:=List.mem_singleton.1 hi
     clear hi
     refine any_call (f:=47) (args:=#[.agg (a.cells sa).toArray]) (some 21) rfl rfl rfl (by decide) (fun c h=>by cases h) (w':=(wr.alloc (.cells (ptCells ((c,s),a) sa).toArray 52)).drew) (by go_simp) ?_
     refine(HCp.out _ ((Kp.refl _ _).drew)).mono ?_
     rintro e w4 ⟨s4,rfl,⟨f4,ho4⟩,hk4⟩
     refine⟨_,rfl,?_⟩
     simp only[Act.put,Sz0,Sz1,Sz2]
     refine wpAnyIn_ready (rs:=[2]) (by kernel_rfl) (by simp) ?_
     intro i hi
     obtain rfl:=List.mem_singleton.1 hi
     clear hi
     refine any_val (v:=.agg #[.int .i64 c,.int .i64 s]) (some 18) rfl rfl rfl rfl (fun c h=>by cases h) (w':=w4) (exec_load_row 32 (.tmp 17) rfl wr.heap.size 0 rfl [.int .i64 c,.int .i64 s] _ (HAt.out w4 (((Kp.refl _ _).drew).trans hk4)) Tryz.underlying32 rfl infoAddr2) ?_
     simp only[Act.put,Sz0,Sz1,Sz2]
     refine wpAnyIn_ready (rs:=[6]) (by kernel_rfl) (by simp) ?_
     intro i hi
     obtain rfl:=List.mem_singleton.1 hi
     clear hi
     have hK4:Kp wr w4 Nul:=((Kp.refl wr Nul).alloc _).drew.trans hk4
     have hs5:(wr.alloc (.cells (ptCells ((c,s),a) sa).toArray 52)).drew.heap.size=wr.heap.size+1:=World.size_alloc _ _
     obtain⟨fn,tms,asg,bod,hy,hR⟩:=HY.out 7 q ((((c,s),a),s4),f4) Zq w4 hlt (HJ.out _ _ _ _ HJQ.out hK4) ⟨HKQ.out,ho4.own,ho4.nodup,fun i hi=>by
      have h1:=(ho4.new i hi).1
      have h2:=HSZ.out
      have h3:=HIN.out.size
      exact⟨by omega,fun hz=>by have:=(HJZ.out _ _ _ HJQ.out).1 i hz;omega⟩⟩
     refine any_round (l:=w.heap.size+1) (f:=fn) (tms:=tms) (asg:=asg) (bod:=bod) (some 22) rfl rfl rfl (by decide) (fun c h=>by cases h) (w':=w4) ?_ ?_
     ·first
      | (go_simp;done)
      | (go_simp;exact hy)
     refine hR.mono ?_
     rintro e w6 (⟨rfl,⟨Z6,hj6,hm6⟩,hk6⟩|⟨rfl,hx6⟩)
     rotate_left
     ·have HX6:Hid (Jx w6):=hx6
      refine⟨_,rfl,?_⟩
      simp only[Act.put,Sz0,Sz1,Sz2]
      clear hy hR hx6 hk4 ho4 hK4 hs5
      refine wpAnyIn_ready (rs:=[7]) (by kernel_rfl) (by simp) ?_
      intro i hi
      obtain rfl:=List.mem_singleton.1 hi
      clear hi
      refine any_val (v:=.bool true) (some 23) rfl rfl rfl rfl (fun c h=>by cases h) (w':=w6) (by go_simp) ?_
      simp only[Act.put,Sz0,Sz1,Sz2]
      refine wpAnyIn_done (by kernel_rfl) ?_ _
      refine NoPanic.normal ?_
      gi_wp2_with (fail)
      refine bodyPost_ret (res_noneI rfl _ _) rfl ?_
      exact⟨⟨_,rfl⟩,.inr HX6.out⟩
     refine⟨_,rfl,?_⟩
     simp only[Act.put,Sz0,Sz1,Sz2]
     have HJ6:Hid (J (q+1) Z6 w6):=hj6
     have HIN6:Hid (InF W F b ys Z6 w6):=by
      have k6:Kp wr w6 (fun i=>(Zq i∨i∈f4)∨i=w.heap.size+1):=hK4.of_nul.trans hk6
      have hbl:=HBL.out
      have hb2:=HW2.out.low
      have hb3:=HSZ.out
      refine⟨fun hz=>?_,fun i y hy=>rangeAt_kp (HIN.out.rng i y hy) k6 (fun e=>?_),fun y hy=>(HIN.out.tree y hy).kp k6 (fun i hi e=>?_),Nat.le_trans HIN.out.size k6.size⟩
      ·rcases hm6 b hz with h|h
       ·exact HIN.out.nz h
       ·have h1:=HBL.out
        have h2:=hK4.size
        omega
      ·rcases e with (e|e)|e
       ·exact HIN.out.nz e
       ·have:=(ho4.new _ e).1;omega
       ·omega
      ·have hi':=HA.out i hi
       rcases e with (e|e)|e
       ·exact HS.out i ((HJZ.out _ _ _ HJQ.out).2 i (by omega) e) hi
       ·have:=(ho4.new _ e).1;have:=HIN.out.size;omega
       ·omega
     clear hy hR hj6 hm6 hk6 hk4 ho4 hK4 hs5
     refine wpAnyIn_ready (rs:=[7]) (by kernel_rfl) (by simp) ?_
     intro i hi
     obtain rfl:=List.mem_singleton.1 hi
     clear hi
     refine any_val (v:=.bool false) (some 23) rfl rfl rfl rfl (fun c h=>by cases h) (w':=w6) (by go_simp) ?_
     simp only[Act.put,Sz0,Sz1,Sz2]
     refine wpAnyIn_done (by kernel_rfl) ?_ _
     refine NoPanic.normal ?_
     gi_wp2_with (fail)
     exact⟨⟨q+1,Z6,by omega,by go_num,HJ6.out,HIN6.out⟩,by simp only[RowKit.intOf];omega⟩
  ·have hqe:q=n:=by omega
   subst hqe
   have hqn:¬((q:Int)<(q:Int)):=by omega
   have HJN:Hid (∃Z',J q Z' wr):=⟨_,HJQ.out⟩
   gi_wp2_with (fail)
   go_end0
   exact⟨⟨_,rfl⟩,.inl (by rw[HN.out];exact HJN.out)⟩
end Go.Proofs.YtecjfnkakodebaaGreatDoor
namespace Go.Proofs.YtecjfnkakodebaaGreatDoor
open Go.RowKit Go.Maps
theorem wo_next {L K M:List Cc} {k:Nat} {x:Cc} (hL:∀y∈L,y.1=x.1->y=x) (hK:K[k]? = some x) (hm:∀y,y∈M↔y∈L/\y∉K.take k) (y:Cc):y∈delL M x.1↔y∈L/\y∉K.take (k+1):=by
 rw[delL_mem,hm,List.take_add_one,hK]
 simp only[Option.toList_some,List.mem_append,List.mem_singleton,not_or,and_assoc,and_congr_right_iff]
 intro h1 _
 exact⟨fun h e=>h (e ▸ rfl),fun h e=>h (hL y h1 e)⟩
theorem wo_end {L K M:List Cc} (hm:∀y,y∈M↔y∈L/\y∉K.take K.length) (y:Cc):y∈M↔y∈L/\y∉K:=by
 rw[hm,List.take_length]
end Go.Proofs.YtecjfnkakodebaaGreatDoor
