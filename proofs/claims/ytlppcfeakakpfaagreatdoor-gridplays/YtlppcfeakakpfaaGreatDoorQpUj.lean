/- Put: a grid's first content. Get; Put that is refused. Bounds, of a grid with one content. awake: its contents and callees. awake. -/
import Derived.Test.YtlppcfeakakpfaaGreatDoorQpXq
import Derived.Test.YtlppcfeakakpfaaGreatDoorQpAx
import Derived.Deep.CutRange
import Derived.Deep.RegionHeld3
set_option maxRecDepth 20000
set_option maxHeartbeats 8000000
namespace Go.Proofs.YtlppcfeakakpfaaGreatDoor
open Go.RowKit Go.Maps
theorem load_content_law {ops:Array Oper} {rest:List Oper} {o:Oper} {a:Act} {w:World} {Q:Exit→Act→World→Prop} (hgd:Region.wanted o (yielded ops a.tmps)=true) (x:Operand) (ho:o.op=.load 46 x) (g:Nat) (hx:a.eval x=.pointer (some ⟨g,0,none⟩)) (cs:Array Value) (hg:w.heap[g]? = some (.cells cs 46 (0,0))) (hcs:cs.size=21)
  (h:wpList Tryz.prog ops Q rest (a.put o.dst (.agg cs)) w):wpList Tryz.prog ops Q (o :: rest) a w:=
 wpList_step fun K hK=>by
  simp only [hgd,if_true]
  exact wp_load_row 46 x ho g hx 46 cs (0,0) _ hg Tryz.underlying46 rfl (by rw [hcs];exact infoContent) (hK _ _ h)
theorem put_first (g:Nat) (c r:Int) (hx:vC c r=true) (ct:Ct) (hct:ct.k=1) (sl:Value) (w:World) (hb:Blk w g [.map none] 68)
  (hval:∀ wq,Kp w wq Nul→Calls Tryz.prog 34 #[ct.val sl] wq fun e w'=>e=.returned (.bool true)∧Kp wq w' Nul)
  (hcp:∀ wq,Kp w wq Nul→Calls Tryz.prog 38 #[ct.val sl] wq fun e w'=>∃ sl' fp,e=.returned ((cpC ct).val sl')∧Own w' wq.heap.size sl' (cpC ct).t fp∧Kp wq w' Nul) :
  Calls Tryz.prog 10 #[.pointer (some ⟨g,0,none⟩),.agg #[.int .i64 c,.int .i64 r],ct.val sl] w fun e w'=>e=.returned (.int .i64 0)∧GridIn w' (fun _=>True) g [((c,r),cpC ct)]∧Kp w w' (fun i=>i=g):=by
 have hi:I64 c∧I64 r:=by
  have:=(vC_iff c r).1 hx
  unfold I64
  omega
 obtain ⟨W1,hW1⟩:∃ W1,(w.alloc (.cells #[.int .i64 c,.int .i64 r] 36)).alloc (.cells (ct.cells sl).toArray 46)=W1:=⟨_,rfl⟩
 have k1:Kp w W1 Nul:=by rw [← hW1];exact ((Kp.refl w Nul).alloc _).alloc _
 have hA1:Blk W1 w.heap.size [.int .i64 c,.int .i64 r] 36:=by rw [← hW1];exact (Blk.new w [.int .i64 c,.int .i64 r] _).alloc _
 have hC1:Blk W1 (w.heap.size+1) (ct.cells sl) 46:=by
  have:=Blk.new (w.alloc (.cells #[.int .i64 c,.int .i64 r] 36)) (ct.cells sl) 46
  rw [World.size_alloc] at this
  rw [← hW1];exact this
 have HC1:Hid (((w.alloc (.cells #[.int .i64 c,.int .i64 r] 36)).alloc (.cells (ct.cells sl).toArray 46)).heap[w.heap.size+1]? = some (.cells (ct.cells sl).toArray 46 (0,0))):=by show _=_;rw [hW1];exact hC1
 have HW1:Hid ((w.alloc (.cells #[.int .i64 c,.int .i64 r] 36)).alloc (.cells #[.int .i64 ct.k,.int .i64 ct.v.k,.float .f64 ct.v.x,.string ct.v.s,.bool ct.v.b,.int .i64 ct.v.f,.int .i64 ct.t.hd.k,.int .i64 ct.t.hd.o,.float .f64 ct.t.hd.x,.string ct.t.hd.s,.bool ct.t.hd.b,.int .i64 ct.t.hd.f,.int .i64 ct.t.hd.c1,.int .i64 ct.t.hd.r1,.bool ct.t.hd.p1,.bool ct.t.hd.q1,.int .i64 ct.t.hd.c2,.int .i64 ct.t.hd.r2,.bool ct.t.hd.p2,.bool ct.t.hd.q2,sl] 46)=W1):=hW1
 have HS:Hid (∀ wq,Kp W1 wq Nul→(wq.cell? ⟨w.heap.size,0,none⟩=some (.int .i64 c)∧wq.cell? ⟨w.heap.size,1,none⟩=some (.int .i64 r)∧wq.cell? ⟨w.heap.size+1,0,none⟩=some (.int .i64 1)∧wq.cell? ⟨g,0,none⟩=some (.map none)∧Blk wq (w.heap.size+1) (ct.cells sl) 46)):=fun wq k=>⟨(hA1.kp k (fun x=>x)).cell rfl,(hA1.kp k (fun x=>x)).cell rfl,by have:=(hC1.kp k (fun x=>x)).cell (i:=0) rfl;rw [hct] at this;exact this,((hb.kp k1 (fun x=>x)).kp k (fun x=>x)).cell rfl,hC1.kp k (fun x=>x)⟩
 have hglt0:g < w.heap.size:=hb.lt
 have HS2:Hid (∀ wq,Kp W1 wq (fun i=>i=g)→(wq.cell? ⟨w.heap.size,0,none⟩=some (.int .i64 c)∧wq.cell? ⟨w.heap.size,1,none⟩=some (.int .i64 r)∧Blk wq (w.heap.size+1) (ct.cells sl) 46)):=fun wq k=>⟨(hA1.kp k (by show ¬ w.heap.size=g;omega)).cell rfl,(hA1.kp k (by show ¬ w.heap.size=g;omega)).cell rfl,hC1.kp k (by show ¬ w.heap.size+1=g;omega)⟩
 have HV:Hid (Calls Tryz.prog 34 #[ct.val sl] W1 fun e w'=>e=.returned (.bool true)∧Kp W1 w' Nul):=hval W1 k1
 have HA:Hid (∀ w,Calls Tryz.prog 35 #[.agg #[.int .i64 c,.int .i64 r]] w fun e w'=>e=.returned (.bool true)∧Kp w w' Nul):=fun w=>(pValid_at c r w).mono fun e w' ⟨h1,h2⟩=>⟨by rw [h1,hx],by rw [h2];exact (Kp.refl w Nul).alloc _⟩
 have HCp:Hid (∀ wq,Kp W1 wq Nul→Calls Tryz.prog 38 #[ct.val sl] wq fun e w'=>∃ sl' fp,e=.returned ((cpC ct).val sl')∧Own w' wq.heap.size sl' (cpC ct).t fp∧Kp wq w' Nul):=fun wq k=>hcp wq (k1.trans k)
 have HKeep:Hid (∀ wq sl',Kp W1 wq Nul→NdIn wq (fun b=>W1.heap.size≤b∧b < wq.heap.size) sl' (cpC ct).t→Calls Tryz.prog 37 #[.pointer (some ⟨g,0,none⟩),.agg #[.int .i64 c,.int .i64 r],(cpC ct).val sl'] wq fun e w'=>e=.returned (.tuple #[])∧GridIn w' (fun _=>True) g [((c,r),cpC ct)]∧Kp wq w' (fun i=>i=g)):=fun wq sl' k hin=>by
  have hglt:g < W1.heap.size:=Nat.lt_of_lt_of_le hb.lt k1.size
  exact keep_first g c r hi.1 hi.2 (cpC ct) sl' (fun _=>True) wq ((hb.kp k1 (fun x=>x)).kp k (fun x=>x)) trivial (fun _ _=>trivial) (hin.mono (fun b hB hlt=>⟨rfl,trivial,by omega,hB.2⟩))
 have HK1:Hid (Kp w W1 Nul):=k1
 have hlen:∀ (w:World) ty,(Builtin.len_ #[66] ty #[.map none]).run Tryz.prog w=.ok (.int .i64 0) w:=fun w ty=>Maps.len_nil Tryz.underlying66 ty
 clear hval hcp hW1 k1 hA1 hC1 hb hx hi hct hglt0
 go_enter Tryz.func10,Tryz.ntmps10
 go_wp2_with (first|(refine load_content_law rfl (.tmp 5) rfl (w.heap.size+1) rfl _ HC1.out rfl ?_)|fail)
 rw [HW1.out]
 refine HV.out.mono ?_
 rintro e w2 ⟨rfl,hk2⟩
 obtain ⟨a1,a2,a3,a4,_⟩:=HS.out w2 hk2
 have HK2:Hid (Kp W1 w2 Nul):=hk2
 clear hk2 HV HC1 HW1
 go_wp2_with fail
 refine (HA.out _).mono ?_
 rintro e w3 ⟨rfl,hk3⟩
 obtain ⟨b1,b2,b3,b4,hB3⟩:=HS.out w3 (HK2.out.trans hk3)
 have HK3:Hid (Kp W1 w3 Nul):=HK2.out.trans hk3
 have hl3:=hlen w3
 clear hk3 HA a1 a2 a3 a4 hB3 hlen HK2
 go_wp2_with fail
 refine wp_region_noPanic ?_
 refine wp_region_hel (fun w':World=>Kp W1 w' (fun i=>i=g)) (by kernel_rfl) (HK3.out.of_nul.drew) (fun hHeld=>?_)
 have tok0:True:=trivial
 have tok1:True:=trivial
 iterate 2 ((first|(clear tok0;refine wpH_takes (i:=0) (v:=?_) (some 41) rfl rfl (by kernel_rfl) (by kernel_rfl) (by kernel_rfl) (fun _ _ _ h=>h) (Or.inl ⟨by rfl,?_⟩) hHeld ?_)|(clear tok1;refine wpH_takes (i:=1) (v:=?_) (some 42) rfl rfl (by kernel_rfl) (by kernel_rfl) (by kernel_rfl) (fun _ _ _ h=>h) (Or.inl ⟨by rfl,?_⟩) hHeld ?_));rotate_left;(· intro w hSw;obtain ⟨s0,s1,_⟩:=HS2.out _ hSw;clear hSw;go_simp;try with_reducible rfl);simp only [Act.put,List.setIfInBounds_toArray,List.set_cons_zero,List.set_cons_succ])
 refine wpH_takes (i:=2) (v:=ct.val sl) (some 43) rfl rfl (by kernel_rfl) (by kernel_rfl) (by kernel_rfl) (fun _ _ _ h=>h) (Or.inl ⟨by rfl,fun w' hSw=>exec_load_content _ rfl rfl (HS2.out w' hSw).2.2 rfl⟩) hHeld ?_
 simp only [Act.put,List.setIfInBounds_toArray,List.set_cons_zero,List.set_cons_succ]
 refine wpH_step (i:=3) (by kernel_rfl) rfl rfl (fun K hK=>?_)
 go_simp
 refine (HCp.out _ HK3.out.drew).mono ?_
 rintro e w4 ⟨sl',fp,rfl,hown,hk4⟩
 have hk14:Kp W1 w4 Nul:=HK3.out.drew.trans hk4
 have hin4:=hown.isIn.mono (w':=w4) (F':=fun b=>W1.heap.size≤b∧b < w4.heap.size) (fun b hB _=>⟨rfl,by have h1:=hB.1;have h2:=HK3.out.size;have h3:w3.drew.heap.size=w3.heap.size:=rfl;omega,hB.2⟩)
 refine hK.out _ _ hk14.of_nul (fun hHeld2=>?_)
 clear hK K hown hk4
 refine wpH_step (i:=4) (by kernel_rfl) rfl rfl (fun K hK=>?_)
 go_simp
 refine (HKeep.out w4 sl' hk14 hin4).mono ?_
 rintro e w5 ⟨rfl,hg5,hk5⟩
 refine hK.out _ _ (hk14.of_nul.trans hk5) (fun _=>?_)
 have HEND:Hid (GridIn w5 (fun _=>True) g [((c,r),cpC ct)]∧Kp w w5 (fun i=>i=g)):=⟨hg5,(HK1.out.trans hk14).of_nul.trans hk5⟩
 clear hK K hHeld hHeld2 hg5 hk5 hk14 hin4
 refine wpAnyH_done (by kernel_rfl) ?_ _
 refine NoPanic.normal ?_
 go_wp2_with fail
 go_ret
 exact ⟨rfl,HEND.out⟩
theorem get_at (g:Nat) (c r:Int) (mv:Option Nat) (V:Value) (u:Ct) (w:World) (hlk:Lk w g c r mv V true)
  (hcp:∀ wq,Kp w wq Nul→Calls Tryz.prog 38 #[V] wq fun e w'=>∃ sl' fp,e=.returned (u.val sl')∧Own w' wq.heap.size sl' u.t fp∧Kp wq w' Nul) :
  Calls Tryz.prog 13 #[.pointer (some ⟨g,0,none⟩),.agg #[.int .i64 c,.int .i64 r]] w fun e w'=>∃ sl',e=.returned (u.val sl')∧sl'.oneCell'=true∧Kp w w' Nul:=by
 obtain ⟨W1,hW1⟩:∃ W1,(w.alloc (.cells #[.int .i64 c,.int .i64 r] 36)).alloc (.cells #[.int .i64 0,.int .i64 0,.float .f64 0,.string ⟨#[]⟩,.bool false,.int .i64 0,.int .i64 0,.int .i64 0,.float .f64 0,.string ⟨#[]⟩,.bool false,.int .i64 0,.int .i64 0,.int .i64 0,.bool false,.bool false,.int .i64 0,.int .i64 0,.bool false,.bool false,.slice none 0 0] 46)=W1:=⟨_,rfl⟩
 have k1:Kp w W1 Nul:=by rw [← hW1];exact ((Kp.refl w Nul).alloc _).alloc _
 have hA1:Blk W1 w.heap.size [.int .i64 c,.int .i64 r] 36:=by rw [← hW1];exact (Blk.new w [.int .i64 c,.int .i64 r] _).alloc _
 have hZ1:Blk W1 (w.heap.size+1) [.int .i64 0,.int .i64 0,.float .f64 0,.string ⟨#[]⟩,.bool false,.int .i64 0,.int .i64 0,.int .i64 0,.float .f64 0,.string ⟨#[]⟩,.bool false,.int .i64 0,.int .i64 0,.int .i64 0,.bool false,.bool false,.int .i64 0,.int .i64 0,.bool false,.bool false,.slice none 0 0] 46:=by
  have:=Blk.new (w.alloc (.cells #[.int .i64 c,.int .i64 r] 36)) [.int .i64 0,.int .i64 0,.float .f64 0,.string ⟨#[]⟩,.bool false,.int .i64 0,.int .i64 0,.int .i64 0,.float .f64 0,.string ⟨#[]⟩,.bool false,.int .i64 0,.int .i64 0,.int .i64 0,.bool false,.bool false,.int .i64 0,.int .i64 0,.bool false,.bool false,.slice none 0 0] 46
  rw [World.size_alloc] at this
  rw [← hW1];exact this
 have hglt:g < w.heap.size:=(Array.getElem?_eq_some_iff.1 hlk.cell).1
 have hg1:Blk W1 g [.map mv] 68:=(k1.block g hglt (fun x=>x)).trans hlk.cell
 have HS:Hid (∀ wq,Kp W1 wq (fun i=>i=w.heap.size+1)→(wq.cell? ⟨w.heap.size,0,none⟩=some (.int .i64 c)∧wq.cell? ⟨w.heap.size,1,none⟩=some (.int .i64 r)∧wq.cell? ⟨g,0,none⟩=some (.map mv)∧(Instr.lookup 66 (.map mv) (.agg #[.int .i64 c,.int .i64 r]) false).run Tryz.prog wq=.ok V wq)):=fun wq k=>⟨(hA1.kp k (by show ¬ w.heap.size=w.heap.size+1;omega)).cell rfl,(hA1.kp k (by show ¬ w.heap.size=w.heap.size+1;omega)).cell rfl,(hg1.kp k (by show ¬ g=w.heap.size+1;omega)).cell rfl,hlk.one wq (fun m hm=>by
  have h2:=(hlk.ne m hm).2
  have h3:=k1.size
  exact (k.block m (by omega) (by show ¬ m=w.heap.size+1;omega)).trans (k1.block m h2 (fun x=>x)))⟩
 have HCp:Hid (∀ wq,Kp W1 wq Nul→Calls Tryz.prog 38 #[V] wq fun e w'=>∃ sl' fp,e=.returned (u.val sl')∧Own w' wq.heap.size sl' u.t fp∧Kp wq w' Nul):=fun wq k=>hcp wq (k1.trans k)
 have HZ:Hid (Blk W1 (w.heap.size+1) [.int .i64 0,.int .i64 0,.float .f64 0,.string ⟨#[]⟩,.bool false,.int .i64 0,.int .i64 0,.int .i64 0,.float .f64 0,.string ⟨#[]⟩,.bool false,.int .i64 0,.int .i64 0,.int .i64 0,.bool false,.bool false,.int .i64 0,.int .i64 0,.bool false,.bool false,.slice none 0 0] 46):=hZ1
 have HW1:Hid ((w.alloc (.cells #[.int .i64 c,.int .i64 r] 36)).alloc (.cells #[.int .i64 0,.int .i64 0,.float .f64 0,.string ⟨#[]⟩,.bool false,.int .i64 0,.int .i64 0,.int .i64 0,.float .f64 0,.string ⟨#[]⟩,.bool false,.int .i64 0,.int .i64 0,.int .i64 0,.bool false,.bool false,.int .i64 0,.int .i64 0,.bool false,.bool false,.slice none 0 0] 46)=W1):=hW1
 have HK1:Hid (Kp w W1 Nul):=k1
 clear hW1 k1 hA1 hZ1 hg1 hlk hcp hglt
 go_enter Tryz.func13,Tryz.ntmps13
 go_wp2_with fail
 rw [HW1.out]
 clear HW1
 refine wp_region_noPanic ?_
 refine wp_region_hel (fun w':World=>Kp W1 w' (fun i=>i=w.heap.size+1)) (by kernel_rfl) ((Kp.refl W1 _).drew) (fun hHeld=>?_)
 have tok0:True:=trivial
 have tok1:True:=trivial
 have tok2:True:=trivial
 have tok3:True:=trivial
 have tok4:True:=trivial
 have tok5:True:=trivial
 iterate 6 ((first|(clear tok0;refine wpH_takes (i:=0) (v:=?_) (some 8) rfl rfl (by kernel_rfl) (by kernel_rfl) (by kernel_rfl) (fun _ _ _ h=>h) (Or.inl ⟨by rfl,?_⟩) hHeld ?_)|(clear tok1;refine wpH_takes (i:=1) (v:=?_) (some 9) rfl rfl (by kernel_rfl) (by kernel_rfl) (by kernel_rfl) (fun _ _ _ h=>h) (Or.inl ⟨by rfl,?_⟩) hHeld ?_)|(clear tok2;refine wpH_takes (i:=2) (v:=?_) (some 10) rfl rfl (by kernel_rfl) (by kernel_rfl) (by kernel_rfl) (fun _ _ _ h=>h) (Or.inl ⟨by rfl,?_⟩) hHeld ?_)|(clear tok3;refine wpH_takes (i:=3) (v:=?_) (some 11) rfl rfl (by kernel_rfl) (by kernel_rfl) (by kernel_rfl) (fun _ _ _ h=>h) (Or.inl ⟨by rfl,?_⟩) hHeld ?_)|(clear tok4;refine wpH_takes (i:=4) (v:=?_) (some 12) rfl rfl (by kernel_rfl) (by kernel_rfl) (by kernel_rfl) (fun _ _ _ h=>h) (Or.inl ⟨by rfl,?_⟩) hHeld ?_)|(clear tok5;refine wpH_takes (i:=5) (v:=?_) (some 13) rfl rfl (by kernel_rfl) (by kernel_rfl) (by kernel_rfl) (fun _ _ _ h=>h) (Or.inl ⟨by rfl,?_⟩) hHeld ?_));rotate_left;(· intro w hSw;obtain ⟨s0,s1,s2,s3⟩:=HS.out _ hSw;clear hSw;go_simp;try with_reducible rfl);simp only [Act.put,List.setIfInBounds_toArray,List.set_cons_zero,List.set_cons_succ])
 refine wpH_step (i:=6) (by kernel_rfl) rfl rfl (fun K hK=>?_)
 go_simp
 refine (HCp.out _ (Kp.refl W1 Nul).drew).mono ?_
 rintro e w4 ⟨sl',fp,rfl,hown,hk4⟩
 have hk14:Kp W1 w4 Nul:=(Kp.refl W1 Nul).drew.trans hk4
 have hone:=hown.own.one
 refine hK.out _ _ hk14.of_nul (fun hHeld2=>?_)
 clear hK K hown hk4
 have hZ4:=HZ.out.kp hk14 (fun x=>x)
 refine wpH_step (i:=7) (by kernel_rfl) rfl rfl (fun K hK=>?_)
 refine wp_store_mid 46 (.tmp 4) (.tmp 14) rfl (w.heap.size+1) 0 (u.cells sl').toArray rfl rfl (there_of_block hZ4 _ _ (by simp)) infoContent (u.one hone) ?_
 obtain ⟨W5,hW5⟩:∃ W5,w4.setCells (w.heap.size+1) 0 (u.cells sl')=W5:=⟨_,rfl⟩
 have k45:Kp w4 W5 (fun i=>i=w.heap.size+1):=by rw [← hW5];exact setCells_kp (fun i=>i=w.heap.size+1) rfl _ _ _
 have hB5:W5.heap[w.heap.size+1]? = some (.cells (u.cells sl').toArray 46 (0,0)):=by
  rw [← hW5]
  exact heap_setCells_whole (cs:=(u.cells sl').toArray) hZ4 rfl
 show K _ (w4.setCells (w.heap.size+1) 0 (u.cells sl'))
 rw [hW5]
 refine hK.out _ _ (hk14.of_nul.trans k45) (fun _=>?_)
 have HONE:Hid (sl'.oneCell'=true):=hone
 have HEND:Hid (Kp w W5 Nul):=(HK1.out.trans hk14).trans' k45 (fun i hi e=>by have:i=w.heap.size+1:=e;omega)
 clear hK K hHeld hHeld2 hk14 k45 hone hZ4 hW5
 refine wpAnyH_done (by kernel_rfl) ?_ _
 refine NoPanic.normal ?_
 go_wp2_with fail
 refine bodyPost_ret (results_cell_row rfl _ _ (w.heap.size+1) 46 _ (0,0) _ rfl hB5 Tryz.underlying46 rfl infoContent) rfl ?_
 exact ⟨_,rfl,HONE.out,HEND.out⟩
theorem put_no (g:Nat) (c r:Int) (ct:Ct) (sl:Value) (V:Bool) (w:World) (hV:V=true→vC c r=false)
  (hval:∀ wq,Kp w wq Nul→Calls Tryz.prog 34 #[ct.val sl] wq fun e w'=>e=.returned (.bool V)∧Kp wq w' Nul) :
  Calls Tryz.prog 10 #[.pointer (some ⟨g,0,none⟩),.agg #[.int .i64 c,.int .i64 r],ct.val sl] w fun e w'=>e=.returned (.int .i64 (if V then 20 else 1))∧Kp w w' Nul:=by
 obtain ⟨W1,hW1⟩:∃ W1,(w.alloc (.cells #[.int .i64 c,.int .i64 r] 36)).alloc (.cells (ct.cells sl).toArray 46)=W1:=⟨_,rfl⟩
 have k1:Kp w W1 Nul:=by rw [← hW1];exact ((Kp.refl w Nul).alloc _).alloc _
 have hA1:Blk W1 w.heap.size [.int .i64 c,.int .i64 r] 36:=by rw [← hW1];exact (Blk.new w [.int .i64 c,.int .i64 r] _).alloc _
 have hC1:Blk W1 (w.heap.size+1) (ct.cells sl) 46:=by
  have:=Blk.new (w.alloc (.cells #[.int .i64 c,.int .i64 r] 36)) (ct.cells sl) 46
  rw [World.size_alloc] at this
  rw [← hW1];exact this
 have HC1:Hid (((w.alloc (.cells #[.int .i64 c,.int .i64 r] 36)).alloc (.cells (ct.cells sl).toArray 46)).heap[w.heap.size+1]? = some (.cells (ct.cells sl).toArray 46 (0,0))):=by show _=_;rw [hW1];exact hC1
 have HW1:Hid ((w.alloc (.cells #[.int .i64 c,.int .i64 r] 36)).alloc (.cells #[.int .i64 ct.k,.int .i64 ct.v.k,.float .f64 ct.v.x,.string ct.v.s,.bool ct.v.b,.int .i64 ct.v.f,.int .i64 ct.t.hd.k,.int .i64 ct.t.hd.o,.float .f64 ct.t.hd.x,.string ct.t.hd.s,.bool ct.t.hd.b,.int .i64 ct.t.hd.f,.int .i64 ct.t.hd.c1,.int .i64 ct.t.hd.r1,.bool ct.t.hd.p1,.bool ct.t.hd.q1,.int .i64 ct.t.hd.c2,.int .i64 ct.t.hd.r2,.bool ct.t.hd.p2,.bool ct.t.hd.q2,sl] 46)=W1):=hW1
 have HS:Hid (∀ wq,Kp W1 wq Nul→(wq.cell? ⟨w.heap.size,0,none⟩=some (.int .i64 c)∧wq.cell? ⟨w.heap.size,1,none⟩=some (.int .i64 r))):=fun wq k=>⟨(hA1.kp k (fun x=>x)).cell rfl,(hA1.kp k (fun x=>x)).cell rfl⟩
 have HV:Hid (Calls Tryz.prog 34 #[ct.val sl] W1 fun e w'=>e=.returned (.bool V)∧Kp W1 w' Nul):=hval W1 k1
 have HA:Hid (V=true→∀ w,Calls Tryz.prog 35 #[.agg #[.int .i64 c,.int .i64 r]] w fun e w'=>e=.returned (.bool false)∧Kp w w' Nul):=fun h w=>(pValid_at c r w).mono fun e w' ⟨h1,h2⟩=>⟨by rw [h1,hV h],by rw [h2];exact (Kp.refl w Nul).alloc _⟩
 have HK1:Hid (Kp w W1 Nul):=k1
 clear hval hW1 k1 hA1 hC1 hV
 go_enter Tryz.func10,Tryz.ntmps10
 go_wp2_with (first|(refine load_content_law rfl (.tmp 5) rfl (w.heap.size+1) rfl _ HC1.out rfl ?_)|fail)
 rw [HW1.out]
 refine HV.out.mono ?_
 rintro e w2 ⟨rfl,hk2⟩
 obtain ⟨a1,a2⟩:=HS.out w2 hk2
 have HK2:Hid (Kp w w2 Nul):=HK1.out.trans hk2
 clear hk2 HV HC1 HW1 HS
 cases V with
 | false=>
  go_wp2_with fail
  go_ret
  exact ⟨rfl,HK2.out⟩
 | true=>
  go_wp2_with fail
  refine (HA.out trivial _).mono ?_
  rintro e w3 ⟨rfl,hk3⟩
  have HK3:Hid (Kp w w3 Nul):=HK2.out.trans hk3
  clear hk3
  go_wp2_with fail
  go_ret
  exact ⟨rfl,HK3.out⟩
theorem addr_inv {key:Value} {l:Lit} (h:keyOf Tryz.prog 36 key=some l):∃ x y,key=.agg #[.int .i64 x,.int .i64 y]∧I64 x∧I64 y:=by
 unfold keyOf at h
 rw [Tryz.underlying36] at h
 simp only at h
 split at h
 ·rename_i hf
  rw [Bool.and_eq_true] at hf
  obtain ⟨n,hn⟩:∃ n,Tryz.prog.types.size=n+1:=by
   have h:=rowAddr
   generalize Tryz.prog.types.size=s at h
   cases s with
   | zero=>exact absurd h (Nat.not_lt_zero _)
   | succ n=>exact ⟨n,rfl⟩
  rw [hn] at h
  have hfm:=hf.2
  cases key <;> simp only [Value.formed,Tryz.underlying36,cellsAddr2,Bool.false_eq_true,beq_iff_eq] at hfm
  rename_i cs
  obtain ⟨c0,c1,rfl⟩:∃ c0 c1,cs=#[c0,c1]:=by
   obtain ⟨l⟩:=cs
   match l,hfm with
   | [c0,c1],_=>exact ⟨c0,c1,rfl⟩
  simp [Program.keyLits,Tryz.underlying36,Tryz.underlying3,Value.cells,cellsInt1,cellsAddr2] at h
  have wf:∀ z:Int,(Lit.int .i64 z).wf=true→I64 z:=fun z hz=>by
   have hm:IntKind.i64.min=-9223372036854775808:=rfl
   simp [Lit.wf,hm] at hz
   unfold I64
   omega
  cases c0 with
  | int q0 x=>
   by_cases h0:q0=.i64∧(Lit.int .i64 x).wf=true
   ·simp only [h0,and_self,if_true,Option.bind_some,Function.comp] at h
    cases c1 with
    | int q1 y=>
     by_cases h1:q1=.i64∧(Lit.int .i64 y).wf=true
     ·obtain ⟨rfl,h0⟩:=h0
      obtain ⟨rfl,h1⟩:=h1
      exact ⟨x,y,rfl,wf x h0,wf y h1⟩
     ·simp [h1] at h
    | _=>simp at h
   ·simp [h0] at h
  | _=>simp at h
 ·cases h
theorem kl_of {x y:Int} {l:Lit} (h:keyOf Tryz.prog 36 (.agg #[.int .i64 x,.int .i64 y])=some l):I64 x∧I64 y∧l=kl x y:=by
 obtain ⟨x',y',e,hx,hy⟩:=addr_inv h
 have e2:x=x'∧y=y':=by simpa using e
 obtain ⟨rfl,rfl⟩:=e2
 refine ⟨hx,hy,?_⟩
 have:=kl_key hx hy
 rw [h] at this
 exact Option.some.inj this
theorem wpList_next_cells (w:World) {ops:Array Oper} {rest:List Oper} {o:Oper} {a:Act} {Q:Exit→Act→World→Prop} (hg:o.guard=none) (it:Operand) (hop:o.op=Op.next it false)
  (b r n:Nat) (D:DataW Value) (left:Lit→Bool) (cnt:Nat) (hit:a.eval it=.pointer (some ⟨r,0,none⟩)) (h:w.ranges Tryz.prog 36 rawE b r n D left cnt)
  (hDone:cnt=0→(∀ kl,left kl=false)→wpList Tryz.prog ops Q rest (a.put o.dst (.tuple #[.bool false])) w)
  (hMore:∀ (x:Int×Int) (c:Value) (w':World) (cnt':Nat),(I64 x.1∧I64 x.2)→left (kl x.1 x.2)=true→(∀ zd,D.atKey (kl x.1 x.2) zd=.held c)→w'.ranges Tryz.prog 36 rawE b r n D (fun z=>left z && !z.sameKey (kl x.1 x.2)) cnt'→cnt' < cnt →
   w.grownBy w' (some r)→w'.heap.size=w.heap.size→(Instr.entry (.pointer (some ⟨r,0,none⟩))).run Tryz.prog w'=.ok (.tuple #[.agg #[.int .i64 x.1,.int .i64 x.2],c]) w'→wpList Tryz.prog ops Q rest (a.put o.dst (.tuple #[.bool true,.agg #[.int .i64 x.1,.int .i64 x.2],c])) w') :
  wpList Tryz.prog ops Q (o :: rest) a w:=
 wpList_next_ranges w hg it hop 36 lawAddr rawE (fun x:Int×Int=>Value.agg #[.int .i64 x.1,.int .i64 x.2]) (fun c:Value=>c) (fun key kl hkey=>by obtain ⟨x,y,rfl,_⟩:=addr_inv hkey;exact ⟨(x,y),rfl⟩) (fun v y hv=>⟨v,rfl⟩)
  b r n D left cnt hit h hDone (fun x c kl' y w' cnt' hkey hlk hv hat hrg hlt hgr hsz hen=>by
   obtain ⟨hx,hy,he⟩:=kl_of (x:=x.1) (y:=x.2) (l:=kl') hkey
   subst he
   have hy2:y.1=.held c:=(congrArg Prod.fst (Option.some.inj hv)).symm
   rw [hy2] at hat
   exact hMore x c w' cnt' ⟨hx,hy⟩ hlk hat hrg hlt hgr hsz hen)
def BdR (w:World) (m:Nat) (D:DataW Value) (c r:Int) (wr:World):Prop:=∃ left cnt,wr.ranges Tryz.prog 36 rawE m (w.heap.size+1+1) 4096 D left cnt∧(∀ k,left k=true→Maps.has D k=true) ∧
 ((left (kl c r)=true∧Blk wr (w.heap.size+1) [.int .i64 256,.int .i64 4096,.int .i64 1,.int .i64 1] 48)∨(left (kl c r)=false∧Blk wr (w.heap.size+1) [.int .i64 c,.int .i64 r,.int .i64 c,.int .i64 r] 48))∧Blk wr w.heap.size [.int .i64 0,.int .i64 0,.int .i64 0,.int .i64 0] 48∧Kp w wr Nul
theorem bounds_one (g:Nat) (ct:Ct) (w:World) (h:GridIn w (fun _=>True) g [((1,1),ct)]) :
  Calls Tryz.prog 14 #[.pointer (some ⟨g,0,none⟩)] w fun e w'=>e=.returned (.tuple #[.agg #[.int .i64 1,.int .i64 1,.int .i64 1,.int .i64 1],.bool true])∧Kp w w' Nul:=by
 have hgin:=h
 obtain ⟨_,h⟩:=h
 rcases h with ⟨_,he⟩|⟨m,D,hb,_,hne,hown,hm⟩
 ·cases he
 have hic:I64 1:=by unfold I64;omega
 have hir:I64 1:=hic
 obtain ⟨W1,hW1⟩:∃ W1,w.alloc (.cells #[.int .i64 0,.int .i64 0,.int .i64 0,.int .i64 0] 48)=W1:=⟨_,rfl⟩
 have k1:Kp w W1 Nul:=by rw [← hW1];exact (Kp.refl w Nul).alloc _
 have hL:Hid (Calls Tryz.prog 15 #[.pointer (some ⟨g,0,none⟩)] W1 fun e w'=>e=.returned (.int .i64 1)∧w'=W1):=by
  have hg1:GridIn W1 (fun _=>True) g [((1,1),ct)]:=by
   obtain ⟨h0,_⟩:=hgin
   refine ⟨h0,.inr ⟨m,D,(k1.block g (Array.getElem?_eq_some_iff.1 hb).1 (fun x=>x)).trans hb,trivial,hne,ownsMap_block hown (k1.block m hown.lt (fun x=>x)),⟨hm.size,hm.rng,hm.keys,fun c' r' ct' h'=>by obtain ⟨sl,e1,e2⟩:=hm.vals c' r' ct' h';exact ⟨sl,e1,e2.kpn k1⟩,hm.once⟩⟩⟩
  exact len_at W1 (fun _=>True) g [((1,1),ct)] hg1
 have hself:Lit.sameKey (kl 1 1) (kl 1 1)=true:=WideAt.sameKey_self (lawAddr.key (kl_key hic hir))
 obtain ⟨W2,hW2⟩:∃ W2,W1.alloc (.cells #[.int .i64 256,.int .i64 4096,.int .i64 1,.int .i64 1] 48)=W2:=⟨_,rfl⟩
 have s1:W1.heap.size=w.heap.size+1:=by rw [← hW1];exact World.size_alloc _ _
 have s2:W2.heap.size=w.heap.size+1+1:=by rw [← hW2,World.size_alloc,s1]
 have k2:Kp W1 W2 Nul:=by rw [← hW2];exact (Kp.refl W1 Nul).alloc _
 have hR2:Blk W2 w.heap.size [.int .i64 0,.int .i64 0,.int .i64 0,.int .i64 0] 48:=by
  have:Blk W1 w.heap.size [.int .i64 0,.int .i64 0,.int .i64 0,.int .i64 0] 48:=by rw [← hW1];exact Blk.new w [.int .i64 0,.int .i64 0,.int .i64 0,.int .i64 0] _
  exact this.kp k2 (fun x=>x)
 have hB2:Blk W2 (w.heap.size+1) [.int .i64 256,.int .i64 4096,.int .i64 1,.int .i64 1] 48:=by
  rw [← s1,← hW2];exact Blk.new W1 [.int .i64 256,.int .i64 4096,.int .i64 1,.int .i64 1] _
 have hgb:Blk w g [.map (some m)] 68:=hb
 have cg:W2.cell? ⟨g,0,none⟩=some (.map (some m)):=((hgb.kp k1 (fun x=>x)).kp k2 (fun x=>x)).cell rfl
 have hmlt:=hown.lt
 have HOwn:Hid (W2.ownsMap Tryz.prog 36 rawE m 4096 D):=ownsMap_block hown ((k1.trans k2).block m hmlt (fun x=>x))
 have HKey:Hid (∀ x y,I64 x→I64 y→Maps.has D (kl x y)=true→x=1∧y=1):=fun x y hx hy hh=>by
  obtain ⟨ct',h'⟩:=(hm.keys x y hx hy).1 hh
  rw [List.mem_singleton] at h'
  cases h'
  exact ⟨rfl,rfl⟩
 have HHas:Hid (Maps.has D (kl 1 1)=true):=(hm.keys 1 1 hic hir).2 ⟨ct,List.mem_singleton.2 rfl⟩
 have HSelf:Hid (Lit.sameKey (kl 1 1) (kl 1 1)=true):=hself
 have HW1:Hid (w.alloc (.cells #[.int .i64 0,.int .i64 0,.int .i64 0,.int .i64 0] 48)=W1):=hW1
 have HK2:Hid (Kp w W2 Nul):=k1.trans k2
 have HR2:Hid (Blk W2 w.heap.size [.int .i64 0,.int .i64 0,.int .i64 0,.int .i64 0] 48):=hR2
 have HB2:Hid (Blk W2 (w.heap.size+1) [.int .i64 256,.int .i64 4096,.int .i64 1,.int .i64 1] 48):=hB2
 have HS2:Hid (W2.heap.size=w.heap.size+1+1):=s2
 have HS1:Hid (W1.heap.size=w.heap.size+1):=s1
 clear hgin hb hne hown hm hW1 k1 k2 hR2 hB2 hgb hself s1 s2
 subst hW2
 go_enter Tryz.func14,Tryz.ntmps14
 go_wp2_with fail
 rw [HW1.out]
 refine hL.out.mono ?_
 rintro e w1 ⟨rfl,hz⟩
 replace hz:=hz.symm
 subst hz
 have hs1:=HS1.out
 go_wp2_with (first
  | (at_range;refine wpList_range_own _ rfl _ 66 rfl 36 46 lawAddr Tryz.underlying66 _ m 4096 D rfl HOwn.out ?_;intro w0 hrg0 hg0 hs0)
  | fail)
 have HStart:Hid (BdR w m D 1 1 w0):=by
  rw [HS2.out] at hrg0
  have k0:=Kp.of_grown (S:=Nul) hg0 (fun i e=>by cases e)
  exact ⟨_,_,hrg0,fun k hk=>hk,.inl ⟨HHas.out,HB2.out.kp k0 (fun x=>x)⟩,HR2.out.kp k0 (fun x=>x),HK2.out.trans k0⟩
 rw [HS2.out]
 clear hrg0 hg0 hs0 HOwn HB2 HR2 HK2 HS2 cg hL HW1
 go_frame
 go_loopw [] (fun wr=>BdR w m D 1 1 wr) (fun wr=>wr.rangeLeft m (w.heap.size+1+1))
 case atStart=>exact HStart.out
 case round=>
  clear HStart
  obtain ⟨left,cnt,hrg,hleft,hcase,hR,hkp⟩:=hrel
  have HRG:Hid (wr.ranges Tryz.prog 36 rawE m (w.heap.size+1+1) 4096 D left cnt):=hrg
  have HLEFT:Hid (∀ k,left k=true→Maps.has D k=true):=hleft
  have HCase:Hid ((left (kl 1 1)=true∧Blk wr (w.heap.size+1) [.int .i64 256,.int .i64 4096,.int .i64 1,.int .i64 1] 48)∨(left (kl 1 1)=false∧Blk wr (w.heap.size+1) [.int .i64 1,.int .i64 1,.int .i64 1,.int .i64 1] 48)):=hcase
  have HR:Hid (Blk wr w.heap.size [.int .i64 0,.int .i64 0,.int .i64 0,.int .i64 0] 48):=hR
  have HKP:Hid (Kp w wr Nul):=hkp
  clear hrg hleft hcase hR hkp
  go_wp2_with (first
   | (at_next;refine wpList_next_cells _ rfl _ rfl m (w.heap.size+1+1) 4096 D left cnt rfl HRG.out ?_ ?_)
   | fail)
  ·intro hc0 hl0
   have hlf:left (kl 1 1)=false:=hl0 _
   have hBf:Blk wr (w.heap.size+1) [.int .i64 1,.int .i64 1,.int .i64 1,.int .i64 1] 48:=by
    rcases HCase.out with ⟨h,_⟩|⟨_,h⟩
    ·rw [hlf] at h;cases h
    ·exact h
   have e0:wr.cell? ⟨w.heap.size+1,0,none⟩=some (.int .i64 1):=hBf.cell rfl
   have e1:wr.cell? ⟨w.heap.size+1,1,none⟩=some (.int .i64 1):=hBf.cell rfl
   have e2:wr.cell? ⟨w.heap.size+1,2,none⟩=some (.int .i64 1):=hBf.cell rfl
   have e3:wr.cell? ⟨w.heap.size+1,3,none⟩=some (.int .i64 1):=hBf.cell rfl
   have f0:wr.cell? ⟨w.heap.size,0,none⟩=some (.int .i64 0):=HR.out.cell rfl
   have f1:wr.cell? ⟨w.heap.size,1,none⟩=some (.int .i64 0):=HR.out.cell rfl
   have f2:wr.cell? ⟨w.heap.size,2,none⟩=some (.int .i64 0):=HR.out.cell rfl
   have f3:wr.cell? ⟨w.heap.size,3,none⟩=some (.int .i64 0):=HR.out.cell rfl
   have g0:wr.frozen? ⟨w.heap.size,0,none⟩=false:=HR.out.froz _
   have g1:wr.frozen? ⟨w.heap.size,1,none⟩=false:=HR.out.froz _
   have g2:wr.frozen? ⟨w.heap.size,2,none⟩=false:=HR.out.froz _
   have g3:wr.frozen? ⟨w.heap.size,3,none⟩=false:=HR.out.froz _
   clear hc0 hl0 hlf hBf
   go_wp2_with fail
   refine bodyPost_ret (v:=.tuple #[.agg #[.int .i64 1,.int .i64 1,.int .i64 1,.int .i64 1],.bool true]) ?_ rfl ⟨rfl,?_⟩
   ·rw [results_cell_tmp' rfl]
    go_simp
   ·exact (((HKP.out.setCell ⟨w.heap.size,0,none⟩ _ (.inl (Nat.le_refl _))).setCell ⟨w.heap.size,1,none⟩ _ (.inl (Nat.le_refl _))).setCell ⟨w.heap.size,2,none⟩ _ (.inl (Nat.le_refl _))).setCell ⟨w.heap.size,3,none⟩ _ (.inl (Nat.le_refl _))
  ·intro x1 x2 cv w1 cnt1 hi1 hi2 hlx hat hrg1 hlt hg1 hs1' hen
   obtain ⟨ex,er⟩:=HKey.out x1 x2 hi1 hi2 (HLEFT.out _ hlx)
   subst ex er
   have hBl:Blk wr (w.heap.size+1) [.int .i64 256,.int .i64 4096,.int .i64 1,.int .i64 1] 48:=by
    rcases HCase.out with ⟨_,h⟩|⟨h,_⟩
    ·exact h
    ·rw [hlx] at h;cases h
   have kr:Kp wr w1 (fun i=>i=w.heap.size+1+1):=Kp.of_grown hg1 (fun i e=>by cases e;rfl)
   have hB1:=hBl.kp kr (by show ¬ w.heap.size+1=w.heap.size+1+1;omega)
   have hR1:=HR.out.kp kr (by show ¬ w.heap.size=w.heap.size+1+1;omega)
   have hk1:Kp w w1 Nul:=HKP.out.trans' kr (fun i hi e=>by have:i=w.heap.size+1+1:=e;omega)
   obtain ⟨W3,hW3⟩:∃ W3,w1.alloc (.cells #[.int .i64 1,.int .i64 1] 36)=W3:=⟨_,rfl⟩
   have k3:Kp w1 W3 Nul:=by rw [← hW3];exact (Kp.refl w1 Nul).alloc _
   have hB3:=hB1.kp k3 (fun x=>x)
   have hR3:=hR1.kp k3 (fun x=>x)
   have hA3:Blk W3 wr.heap.size [.int .i64 1,.int .i64 1] 36:=by rw [← hs1',← hW3];exact Blk.new w1 [.int .i64 1,.int .i64 1] _
   have hw3:w.heap.size+1 < wr.heap.size:=hBl.lt
   have e0:W3.cell? ⟨w.heap.size+1,0,none⟩=some (.int .i64 256):=hB3.cell rfl
   have e1:W3.cell? ⟨w.heap.size+1,1,none⟩=some (.int .i64 4096):=hB3.cell rfl
   have e2:W3.cell? ⟨w.heap.size+1,2,none⟩=some (.int .i64 1):=hB3.cell rfl
   have e3:W3.cell? ⟨w.heap.size+1,3,none⟩=some (.int .i64 1):=hB3.cell rfl
   have g0:W3.frozen? ⟨w.heap.size+1,0,none⟩=false:=hB3.froz _
   have g1:W3.frozen? ⟨w.heap.size+1,1,none⟩=false:=hB3.froz _
   have g2:W3.frozen? ⟨w.heap.size+1,2,none⟩=false:=hB3.froz _
   have g3:W3.frozen? ⟨w.heap.size+1,3,none⟩=false:=hB3.froz _
   have a0:W3.cell? ⟨wr.heap.size,0,none⟩=some (.int .i64 1):=hA3.cell rfl
   have a1:W3.cell? ⟨wr.heap.size,1,none⟩=some (.int .i64 1):=hA3.cell rfl
   have HRG1:Hid (w1.ranges Tryz.prog 36 rawE m (w.heap.size+1+1) 4096 D (fun z=>left z && !z.sameKey (kl 1 1)) cnt1):=hrg1
   have HB3:Hid (Blk W3 (w.heap.size+1) [.int .i64 256,.int .i64 4096,.int .i64 1,.int .i64 1] 48):=hB3
   have HR3:Hid (Blk W3 w.heap.size [.int .i64 0,.int .i64 0,.int .i64 0,.int .i64 0] 48):=hR3
   have HK3:Hid (Kp w1 W3 Nul):=k3
   have HK1:Hid (Kp w w1 Nul):=hk1
   have HLT:Hid (cnt1 < cnt):=hlt
   have hne1:w.heap.size+1≠wr.heap.size:=by omega
   clear hlx hat hrg1 hlt hg1 hBl kr hB1 hR1 hk1 k3 hB3 hR3 hA3 hi1 hi2
   have HW3:Hid (w1.alloc (.cells #[.int .i64 1,.int .i64 1] 36)=W3):=hW3
   clear hW3
   go_upto_region 7 with fail
   rw [HW3.out]
   clear HW3
   go_wp2_with fail
   have k4:Kp W3 ((((W3.setCell ⟨w.heap.size+1,0,none⟩ (.int .i64 1)).setCell ⟨w.heap.size+1,1,none⟩ (.int .i64 1)).setCell ⟨w.heap.size+1,2,none⟩ (.int .i64 1)).setCell ⟨w.heap.size+1,3,none⟩ (.int .i64 1)) (fun i=>i=w.heap.size+1):=((((Kp.refl W3 (fun i=>i=w.heap.size+1)).setCell ⟨w.heap.size+1,0,none⟩ _ (.inr rfl)).setCell ⟨w.heap.size+1,1,none⟩ _ (.inr rfl)).setCell ⟨w.heap.size+1,2,none⟩ _ (.inr rfl)).setCell ⟨w.heap.size+1,3,none⟩ _ (.inr rfl)
   have hB4:=(((HB3.out.set 0 (.int .i64 1)).set 1 (.int .i64 1)).set 2 (.int .i64 1)).set 3 (.int .i64 1)
   have HEND:Hid (((((W3.setCell ⟨w.heap.size+1,0,none⟩ (.int .i64 1)).setCell ⟨w.heap.size+1,1,none⟩ (.int .i64 1)).setCell ⟨w.heap.size+1,2,none⟩ (.int .i64 1)).setCell ⟨w.heap.size+1,3,none⟩ (.int .i64 1)).ranges Tryz.prog 36 rawE m (w.heap.size+1+1) 4096 D (fun z=>left z && !z.sameKey (kl 1 1)) cnt1∧BdR w m D 1 1 ((((W3.setCell ⟨w.heap.size+1,0,none⟩ (.int .i64 1)).setCell ⟨w.heap.size+1,1,none⟩ (.int .i64 1)).setCell ⟨w.heap.size+1,2,none⟩ (.int .i64 1)).setCell ⟨w.heap.size+1,3,none⟩ (.int .i64 1))):=by
    have k14:Kp w1 ((((W3.setCell ⟨w.heap.size+1,0,none⟩ (.int .i64 1)).setCell ⟨w.heap.size+1,1,none⟩ (.int .i64 1)).setCell ⟨w.heap.size+1,2,none⟩ (.int .i64 1)).setCell ⟨w.heap.size+1,3,none⟩ (.int .i64 1)) (fun i=>i=w.heap.size+1):=HK3.out.of_nul.trans k4
    generalize ((((W3.setCell ⟨w.heap.size+1,0,none⟩ (.int .i64 1)).setCell ⟨w.heap.size+1,1,none⟩ (.int .i64 1)).setCell ⟨w.heap.size+1,2,none⟩ (.int .i64 1)).setCell ⟨w.heap.size+1,3,none⟩ (.int .i64 1))=W5 at *
    have hgr:w1.grownBy W5 (some (w.heap.size+1)):=⟨k14.os,k14.tape,k14.output,k14.size,fun i hi hn=>k14.block i hi (fun e=>hn (by have:i=w.heap.size+1:=e;rw [this]))⟩
    have hrg5:=HRG1.out.kept hgr (fun e=>by have:=Option.some.inj e;omega) (fun e=>by have:=Option.some.inj e;omega)
    refine ⟨hrg5,_,_,hrg5,fun k hk=>HLEFT.out k (by rw [Bool.and_eq_true] at hk;exact hk.1),.inr ⟨by rw [HSelf.out];simp,hB4⟩,HR3.out.kp k4 (by show ¬ w.heap.size=w.heap.size+1;omega),HK1.out.trans' k14 (fun i hi e=>by have:i=w.heap.size+1:=e;omega)⟩
   clear k4 hB4
   go_roundw
   case rel=>exact HEND.out.2
   case measure=>rw [HEND.out.1.left_eq,HRG.out.left_eq];exact HLT.out
def ct7:Ct:=⟨1,⟨1,4619567317775286272,⟨#[]⟩,false,0⟩,zNd⟩
def ct3:Ct:=⟨3,⟨0,0,⟨#[]⟩,false,0⟩,zNd⟩
theorem zsize:zNd.size=1:=by unfold zNd;rw [Nd.size,sizeL]
theorem cpy_zNd:cpy zNd=zNd:=by
 unfold zNd
 rw [cpy,cpyL]
 rfl
theorem zeroN_z:zeroN zNd=true:=by
 unfold zeroN zNd
 simp [tsame,hsame]
 try decide
theorem valid7:validC ct7 false 0=true:=by
 have h1:bareV ct7.v=true:=by simp [bareV,ct7]
 have h2:zeroN ct7.t=true:=zeroN_z
 simp [validC,validV,h1,h2]
 simp [ct7]
theorem valid3:validC ct3 false 0=false:=by simp [validC,ct3]
theorem cp7:cpC ct7=ct7:=by
 unfold cpC ct7
 simp only [cpy_zNd]
 congr 1
theorem valid_ct (ct:Ct) (ht:ct.t=zNd) (hk:ct.v.k≠2) (hk2:ct.k≠2) (V:Bool) (hV:validC ct false 0=V) (w:World):Calls Tryz.prog 34 #[ct.val (.slice none 0 0)] w fun e w'=>e=.returned (.bool V)∧Kp w w' Nul:=by
 refine (gValid_at ct (.slice none 0 0) (fun _=>True) false 0 w (by rw [ht];exact zNd_ok) (by rw [ht];exact zNd_in w _) (fun _ h=>absurd h hk) (fun h=>absurd h hk2)).mono ?_
 rintro e w' ⟨h1,h2⟩
 rw [hV] at h1
 exact ⟨h1,Kp.of_below h2⟩
theorem copy_ct (ct:Ct) (sl:Value) (F:Nat→Prop) (ht:ct.t=zNd) (hx:ct.v.x < 18446744073709551616) (w:World) (hin:NdIn w F sl ct.t):Calls Tryz.prog 38 #[ct.val sl] w fun e w'=>∃ sl' fp,e=.returned ((cpC ct).val sl')∧Own w' w.heap.size sl' (cpC ct).t fp∧Kp w w' Nul:=by
 refine (gCopy_at ct sl F w hx (by rw [ht,zsize];decide) (by rw [ht];exact zNd_ok) hin).mono ?_
 rintro e w' ⟨sl',fp,h1,h2,h3⟩
 exact ⟨sl',fp,h1,h2,Kp.of_below h3⟩
theorem cell_at (x y:Int) (w:World):Calls Tryz.prog 11 #[.int .i64 x,.int .i64 y] w fun e w'=>e=.returned (.agg #[.int .i64 x,.int .i64 y])∧Kp w w' Nul:=by
 go_enter Tryz.func11,Tryz.ntmps11
 go_wp2_with fail
 refine bodyPost_ret (results_cell_row rfl _ _ w.heap.size 36 _ (0,0) _ rfl (heap_alloc_new _ _) Tryz.underlying36 rfl (by kernel_rfl)) rfl ?_
 exact ⟨rfl,(Kp.refl w Nul).alloc _⟩
theorem number_at (w:World):Calls Tryz.prog 12 #[.float .f64 4619567317775286272] w fun e w'=>e=.returned (ct7.val (.slice none 0 0))∧Kp w w' Nul:=by
 go_enter Tryz.func12,Tryz.ntmps12
 go_wp2_with (refine wpList_store_new rfl 46 (.tmp 2) (.tmp 5) rfl _ _ _ _ _ (by simp) rfl rfl rfl infoContent (Ct.one ct7 (sl:=.slice none 0 0) rfl) ?_)
 refine bodyPost_ret (results_cell_row rfl _ _ w.heap.size 46 _ (0,0) _ rfl (heap_alloc_new _ _) Tryz.underlying46 rfl infoContent) rfl ?_
 exact ⟨rfl,(Kp.refl w Nul).alloc _⟩
theorem GridIn.kp {w w':World} {F:Nat→Prop} {g:Nat} {L:List Cc} (h:GridIn w F g L) (k:Kp w w' Nul):GridIn w' F g L:=by
 obtain ⟨h0,h⟩:=h
 refine ⟨h0,?_⟩
 rcases h with ⟨hb,he⟩|⟨m,D,hb,hFm,hne,hown,hm⟩
 ·exact .inl ⟨(k.block g (Array.getElem?_eq_some_iff.1 hb).1 (fun x=>x)).trans hb,he⟩
 ·exact .inr ⟨m,D,(k.block g (Array.getElem?_eq_some_iff.1 hb).1 (fun x=>x)).trans hb,hFm,hne,ownsMap_block hown (k.block m hown.lt (fun x=>x)),⟨hm.size,hm.rng,hm.keys,fun c' r' ct' h'=>by obtain ⟨sl,e1,e2⟩:=hm.vals c' r' ct' h';exact ⟨sl,e1,e2.kpn k⟩,hm.once⟩⟩
theorem eql_area1 (w:World):(binOp .eql 48 (.agg #[.int .i64 1,.int .i64 1,.int .i64 1,.int .i64 1]) (.agg #[.int .i64 1,.int .i64 1,.int .i64 1,.int .i64 1])).run Tryz.prog w=.ok (.bool true) w:=by simp [go_sem]
theorem seven:FloatKind.f64.format.order 4619567317775286272 4619567317775286272=some .eq:=by decide +kernel
theorem awake17 (w:World):Calls Tryz.prog 4 #[] w fun e w'=>e=.returned (.bool true)∧Kp w w' Nul:=by
 have HNew:Hid (Calls Tryz.prog 5 #[] w fun e w'=>e=.returned (.pointer (some ⟨w.heap.size,0,none⟩))∧w'=w.alloc (.cells #[.map none] 68)):=new_at w
 have HCell:Hid (∀ x y w,Calls Tryz.prog 11 #[.int .i64 x,.int .i64 y] w fun e w'=>e=.returned (.agg #[.int .i64 x,.int .i64 y])∧Kp w w' Nul):=cell_at
 have HNum:Hid (∀ w,Calls Tryz.prog 12 #[.float .f64 4619567317775286272] w fun e w'=>e=.returned (ct7.val (.slice none 0 0))∧Kp w w' Nul):=number_at
 have hb0:Blk (w.alloc (.cells #[.map none] 68)) w.heap.size [.map none] 68:=Blk.new w [.map none] _
 have HB0:Hid (∀ wq,Kp (w.alloc (.cells #[.map none] 68)) wq Nul→Blk wq w.heap.size [.map none] 68):=fun wq k=>hb0.kp k (fun x=>x)
 have HK0:Hid (Kp w (w.alloc (.cells #[.map none] 68)) Nul):=(Kp.refl w Nul).alloc _
 have HPut1:Hid (∀ wq,Kp (w.alloc (.cells #[.map none] 68)) wq Nul→Calls Tryz.prog 10 #[.pointer (some ⟨w.heap.size,0,none⟩),.agg #[.int .i64 1,.int .i64 1],ct7.val (.slice none 0 0)] wq fun e w'=>e=.returned (.int .i64 0)∧GridIn w' (fun _=>True) w.heap.size [((1,1),ct7)]∧Kp w w' Nul):=fun wq k=>by
  have h:=put_first w.heap.size 1 1 (by decide) ct7 rfl (.slice none 0 0) wq (HB0.out wq k) (fun wz _=>valid_ct ct7 rfl (by decide) (by decide) true valid7 wz) (fun wz _=>copy_ct ct7 _ (fun _=>True) rfl (by decide) wz (zNd_in wz _))
  rw [cp7] at h
  refine h.mono ?_
  rintro e w' ⟨h1,h2,h3⟩
  exact ⟨h1,h2,(HK0.out.trans k).trans' h3 (fun i hi e=>by have:i=w.heap.size:=e;omega)⟩
 have HPut2:Hid (∀ wq,Calls Tryz.prog 10 #[.pointer (some ⟨w.heap.size,0,none⟩),.agg #[.int .i64 257,.int .i64 1],ct7.val (.slice none 0 0)] wq fun e w'=>e=.returned (.int .i64 20)∧Kp wq w' Nul):=fun wq=>put_no w.heap.size 257 1 ct7 (.slice none 0 0) true wq (fun _=>by decide) (fun wz _=>valid_ct ct7 rfl (by decide) (by decide) true valid7 wz)
 have HPut3:Hid (∀ wq,Calls Tryz.prog 10 #[.pointer (some ⟨w.heap.size,0,none⟩),.agg #[.int .i64 2,.int .i64 2],ct3.val (.slice none 0 0)] wq fun e w'=>e=.returned (.int .i64 1)∧Kp wq w' Nul):=fun wq=>put_no w.heap.size 2 2 ct3 (.slice none 0 0) false wq (fun h=>by cases h) (fun wz _=>valid_ct ct3 rfl (by decide) (by decide) false valid3 wz)
 have HGet:Hid (∀ wq,GridIn wq (fun _=>True) w.heap.size [((1,1),ct7)]→Calls Tryz.prog 13 #[.pointer (some ⟨w.heap.size,0,none⟩),.agg #[.int .i64 1,.int .i64 1]] wq fun e w'=>∃ sl',e=.returned (ct7.val sl')∧sl'.oneCell'=true∧Kp wq w' Nul):=fun wq hg=>by
  have hi:I64 1:=by unfold I64;omega
  obtain ⟨mv,v,b,hlk,h⟩:=lk_of hg hi hi
  rcases h with ⟨rfl,ct,sl,hmem,rfl,hin⟩|⟨_,_,h⟩
  ·rw [List.mem_singleton] at hmem
   cases hmem
   have h2:=get_at w.heap.size 1 1 mv _ (cpC ct7) wq hlk (fun wz k=>copy_ct ct7 sl (fun _=>True) rfl (by decide) wz (hin.kpn k))
   rw [cp7] at h2
   exact h2
  ·exact absurd (List.mem_singleton.2 rfl) (h ct7)
 have HBd:Hid (∀ wq,GridIn wq (fun _=>True) w.heap.size [((1,1),ct7)]→Calls Tryz.prog 14 #[.pointer (some ⟨w.heap.size,0,none⟩)] wq fun e w'=>e=.returned (.tuple #[.agg #[.int .i64 1,.int .i64 1,.int .i64 1,.int .i64 1],.bool true])∧Kp wq w' Nul):=fun wq hg=>bounds_one w.heap.size ct7 wq hg
 have HLen:Hid (∀ wq,GridIn wq (fun _=>True) w.heap.size [((1,1),ct7)]→Calls Tryz.prog 15 #[.pointer (some ⟨w.heap.size,0,none⟩)] wq fun e w'=>e=.returned (.int .i64 1)∧w'=wq):=fun wq hg=>len_at wq (fun _=>True) w.heap.size [((1,1),ct7)] hg
 clear hb0
 go_enter Tryz.func4,Tryz.ntmps4
 go_wp2_with fail
 refine HNew.out.mono ?_
 rintro e w1 ⟨rfl,hz⟩
 have hk1:Kp (w.alloc (.cells #[.map none] 68)) w1 Nul:=by rw [hz];exact Kp.refl _ _
 clear hz HNew
 go_wp2_with fail
 refine (HCell.out _ _ _).mono ?_
 rintro e w2 ⟨rfl,hk2⟩
 go_wp2_with fail
 refine (HNum.out _).mono ?_
 rintro e w3 ⟨rfl,hk3⟩
 have HK3:Hid (Kp (w.alloc (.cells #[.map none] 68)) w3 Nul):=(hk1.trans hk2).trans hk3
 clear hk1 hk2 hk3
 go_wp2_with fail
 refine (HPut1.out _ HK3.out).mono ?_
 rintro e w4 ⟨rfl,hg4,hk4⟩
 have HG4:Hid (GridIn w4 (fun _=>True) w.heap.size [((1,1),ct7)]):=hg4
 have HK4:Hid (Kp w w4 Nul):=hk4
 clear hg4 hk4 HK3 HPut1
 go_wp2_with fail
 refine (HCell.out _ _ _).mono ?_
 rintro e w5 ⟨rfl,hk5⟩
 go_wp2_with fail
 refine (HNum.out _).mono ?_
 rintro e w6 ⟨rfl,hk6⟩
 go_wp2_with fail
 refine (HPut2.out _).mono ?_
 rintro e w7 ⟨rfl,hk7⟩
 go_wp2_with fail
 refine (HCell.out _ _ _).mono ?_
 rintro e w8 ⟨rfl,hk8⟩
 go_wp2_with fail
 refine (HPut3.out _).mono ?_
 rintro e w9 ⟨rfl,hk9⟩
 go_wp2_with fail
 refine (HCell.out _ _ _).mono ?_
 rintro e w10 ⟨rfl,hk10⟩
 have hk410:Kp w4 w10 Nul:=((((hk5.trans hk6).trans hk7).trans hk8).trans hk9).trans hk10
 have HG10:Hid (GridIn w10 (fun _=>True) w.heap.size [((1,1),ct7)]):=HG4.out.kp hk410
 have HK10:Hid (Kp w w10 Nul):=HK4.out.trans hk410
 clear hk5 hk6 hk7 hk8 hk9 hk10 hk410 HG4 HK4 HPut2 HPut3 HNum
 go_wp2_with fail
 refine (HGet.out _ HG10.out).mono ?_
 rintro e w11 ⟨sl,rfl,hone,hk11⟩
 have HG11:Hid (GridIn w11 (fun _=>True) w.heap.size [((1,1),ct7)]):=HG10.out.kp hk11
 have HK11:Hid (Kp w w11 Nul):=HK10.out.trans hk11
 have HONE:Hid (sl.oneCell'=true):=hone
 obtain ⟨W12,hW12⟩:∃ W12,w11.alloc (.cells (ct7.cells sl).toArray 46)=W12:=⟨_,rfl⟩
 have hC12:Blk W12 w11.heap.size (ct7.cells sl) 46:=by rw [← hW12];exact Blk.new w11 _ _
 have k12:Kp w11 W12 Nul:=by rw [← hW12];exact (Kp.refl w11 Nul).alloc _
 clear hk11 hone HG10 HK10 HGet
 go_wp2_with (refine wpList_store_new rfl 46 (.tmp 5) (.tmp 25) rfl _ _ _ _ _ (by simp) rfl rfl rfl infoContent (Ct.one ct7 HONE.out) ?_)
 refine (HBd.out _ (HG11.out.kp k12)).mono ?_
 rintro e w13 ⟨rfl,hk13⟩
 have hg13:=(HG11.out.kp k12).kp hk13
 have hC13:=hC12.kp hk13 (fun x=>x)
 have hk013:Kp w w13 Nul:=(HK11.out.trans k12).trans hk13
 obtain ⟨W14,hW14⟩:∃ W14,w13.alloc (.cells #[.int .i64 1,.int .i64 1,.int .i64 1,.int .i64 1] 48)=W14:=⟨_,rfl⟩
 have k14:Kp w13 W14 Nul:=by rw [← hW14];exact (Kp.refl w13 Nul).alloc _
 have hA14:Blk W14 w13.heap.size [.int .i64 1,.int .i64 1,.int .i64 1,.int .i64 1] 48:=by rw [← hW14];exact Blk.new w13 [.int .i64 1,.int .i64 1,.int .i64 1,.int .i64 1] _
 have hC14:=hC13.kp k14 (fun x=>x)
 have HS:Hid (∀ wq,Kp W14 wq Nul→(wq.cell? ⟨w11.heap.size,2,none⟩=some (.float .f64 4619567317775286272)∧wq.cell? ⟨w13.heap.size,0,none⟩=some (.int .i64 1)∧wq.cell? ⟨w13.heap.size,1,none⟩=some (.int .i64 1)∧wq.cell? ⟨w13.heap.size,2,none⟩=some (.int .i64 1)∧wq.cell? ⟨w13.heap.size,3,none⟩=some (.int .i64 1))):=fun wq k=>⟨(hC14.kp k (fun x=>x)).cell rfl,(hA14.kp k (fun x=>x)).cell rfl,(hA14.kp k (fun x=>x)).cell rfl,(hA14.kp k (fun x=>x)).cell rfl,(hA14.kp k (fun x=>x)).cell rfl⟩
 have HLen14:Hid (∀ wq,Kp W14 wq Nul→Calls Tryz.prog 15 #[.pointer (some ⟨w.heap.size,0,none⟩)] wq fun e w'=>e=.returned (.int .i64 1)∧Kp W14 w' Nul):=fun wq k=>(HLen.out wq ((hg13.kp k14).kp k)).mono fun e w' ⟨h1,h2⟩=>⟨h1,by rw [h2];exact k⟩
 have HCell14:Hid (∀ wq,Kp W14 wq Nul→Calls Tryz.prog 11 #[.int .i64 1,.int .i64 1] wq fun e w'=>e=.returned (.agg #[.int .i64 1,.int .i64 1])∧Kp W14 w' Nul):=fun wq k=>(HCell.out 1 1 wq).mono fun e w' ⟨h1,h2⟩=>⟨h1,k.trans h2⟩
 have HK14:Hid (Kp w W14 Nul):=hk013.trans k14
 have hk0:Kp W14 W14.drew Nul:=(Kp.refl W14 Nul).drew
 have he:=eql_area1
 have h7:=seven
 clear hk13 hg13 hC13 hk013 hC12 k12 hA14 hC14 HG11 HK11 HBd HLen HCell HONE k14 HB0 HK0
 go_wp2_with fail
 go_region_held3 (fun w'=>w'.cell? ⟨w11.heap.size,2,none⟩=some (.float .f64 4619567317775286272)∧w'.cell? ⟨w13.heap.size,0,none⟩=some (.int .i64 1)∧w'.cell? ⟨w13.heap.size,1,none⟩=some (.int .i64 1)∧w'.cell? ⟨w13.heap.size,2,none⟩=some (.int .i64 1)∧w'.cell? ⟨w13.heap.size,3,none⟩=some (.int .i64 1))
  (exact HS.out _ (by assumption))
  (first
   | (go_at_call 15;refine (HLen14.out _ (by assumption)).mono ?_;rintro e wz ⟨rfl,hkz⟩)
   | (go_at_call 11;refine (HCell14.out _ (by assumption)).mono ?_;rintro e wz ⟨rfl,hkz⟩))
 all_goals
  go_wp2_with fail
  go_ret
  exact ⟨rfl,HK14.out.trans (by assumption)⟩
end Go.Proofs.YtlppcfeakakpfaaGreatDoor
