/-The law's small: an area and a cell of raw numbers. -/
import Derived.Test.YtecjfnkakodebaaGreatDoorQwMyb
set_option maxRecDepth 20000
set_option maxHeartbeats 16000000
namespace Go.Proofs.YtecjfnkakodebaaGreatDoor
open Go.RowKit
section
variable {P:Program} {ops:Array Oper} {Q:Exit->Act->World->Prop} {md:Region.Mode} {S:World->Prop}
theorem wpH_fork {i j:Nat} {oi oj:Oper} {n:Nat} {on:Array Bool} {a:Act} {w:World} (hr:Region.ready md ops on=[i,j]) (hoi:ops[i]? = some oi) (hoj:ops[j]? = some oj) (hgi:oi.guard=none) (hgj:oj.guard=none)
  (h1:∀K':Act->World->Prop,Hid (∀a w,S w->(S w->wpAnyH P md ops Q S n (on.setIfInBounds i true) a w)->K' a w)->oi.wp P a w K' Q)
  (h2:∀K':Act->World->Prop,Hid (∀a w,S w->(S w->wpAnyH P md ops Q S n (on.setIfInBounds j true) a w)->K' a w)->oj.wp P a w K' Q):wpAnyH P md ops Q S (n+1) on a w:=by
 refine wpAnyH_all hr (by simp) (fun k hk=>?_)
 rcases List.mem_cons.1 hk with rfl|hk
 ·unfold wpOp
  rw[hoi]
  simp only[Region.wanted,hgi,if_true]
  exact .inl (h1 _ (fun a w hS hW=>⟨hS,hW hS⟩))
 ·obtain rfl:=List.mem_singleton.1 hk
  unfold wpOp
  rw[hoj]
  simp only[Region.wanted,hgj,if_true]
  exact .inl (h2 _ (fun a w hS hW=>⟨hS,hW hS⟩))
end
theorem results_row_row {P:Program} {fn:Func} {p q:Tmp} {ty tz:TypeId} (h:fn.results=#[.cell p ty,.cell q tz]) (tmps:Array Value) (w:World) (g:Nat) (t:TypeId) (cs:Array Value) (fr:Nat×Nat) (d:TypeDesc) (g':Nat) (t':TypeId) (cs':Array Value) (fr':Nat×Nat) (d':TypeDesc)
  (hp:tmps.getD p undef=.pointer (some ⟨g,0,none⟩)) (hg:w.heap[g]? = some (.cells cs t fr)) (hu:P.underlying ty=some d) (hd:(match d with | .struct _ | .array _ _=>true|_=>false)=true) (hi:(P.info? ty).map (·.size)=some cs.size)
  (hq:tmps.getD q undef=.pointer (some ⟨g',0,none⟩)) (hg':w.heap[g']? = some (.cells cs' t' fr')) (hu':P.underlying tz=some d') (hd':(match d' with | .struct _ | .array _ _=>true|_=>false)=true) (hi':(P.info? tz).map (·.size)=some cs'.size) :
  (results fn tmps).run P w=.ok (.tuple #[.agg cs,.agg cs']) w:=by
 have hp':tmps[p]?.getD undef=.pointer (some ⟨g,0,none⟩):=by simpa using hp
 have hq':tmps[q]?.getD undef=.pointer (some ⟨g',0,none⟩):=by simpa using hq
 simp[results,h,hp',hq',asAddr,run_loadVar_row w g t ty cs fr d hg hu hd hi,run_loadVar_row w g' t' tz cs' fr' d' hg' hu' hd' hi']
theorem small_core (x0 x1 x2 f1 f2 g1 g2 t1 t2 r1 r2 r3 r4 r5 r6:Int) (w:World) (h1:0<=r1/\r1<6) (h2:0<=r2/\r2<6) (h3:0<=r3/\r3<3) (h4:0<=r4/\r4<3) (h5:0<=r5/\r5<7) (h6:0<=r6/\r6<7)
  (P1:Hid (∀wq,Calls Tryz.prog 28 #[.int .i64 f1,.int .i64 6] wq fun e w'=>e=.returned (.int .i64 r1)/\Kp wq w' Nul))
  (P2:Hid (∀wq,Calls Tryz.prog 28 #[.int .i64 f2,.int .i64 6] wq fun e w'=>e=.returned (.int .i64 r2)/\Kp wq w' Nul))
  (P3:Hid (∀wq,Calls Tryz.prog 28 #[.int .i64 g1,.int .i64 3] wq fun e w'=>e=.returned (.int .i64 r3)/\Kp wq w' Nul))
  (P4:Hid (∀wq,Calls Tryz.prog 28 #[.int .i64 g2,.int .i64 3] wq fun e w'=>e=.returned (.int .i64 r4)/\Kp wq w' Nul))
  (P5:Hid (∀wq,Calls Tryz.prog 28 #[.int .i64 t1,.int .i64 7] wq fun e w'=>e=.returned (.int .i64 r5)/\Kp wq w' Nul))
  (P6:Hid (∀wq,Calls Tryz.prog 28 #[.int .i64 t2,.int .i64 7] wq fun e w'=>e=.returned (.int .i64 r6)/\Kp wq w' Nul))
  : Calls Tryz.prog 14 #[.agg #[.int .i64 x0,.int .i64 x1,.int .i64 x2,.int .i64 f1,.int .i64 f2,.int .i64 g1,.int .i64 g2,.int .i64 t1,.int .i64 t2]] w fun e w'=>e=.returned (.tuple #[.agg #[.int .i64 (1+r1),.int .i64 (1+r2),.int .i64 (1+r1+r3),.int .i64 (1+r2+r4)],.agg #[.int .i64 (1+r5),.int .i64 (1+r6)]])/\Kp w w' Nul:=by
 obtain⟨p1,q1⟩:=h1
 obtain⟨p2,q2⟩:=h2
 obtain⟨p3,q3⟩:=h3
 obtain⟨p4,q4⟩:=h4
 obtain⟨p5,q5⟩:=h5
 obtain⟨p6,q6⟩:=h6
 have HAt:Hid (∀x y w,Calls Tryz.prog 18 #[.int .i64 x,.int .i64 y] w fun e w'=>e=.returned (.agg #[.int .i64 x,.int .i64 y])/\Kp w w' Nul):=at22
 obtain⟨W,hW⟩:∃W,((w.alloc (.cells #[.int .i64 x0,.int .i64 x1,.int .i64 x2,.int .i64 f1,.int .i64 f2,.int .i64 g1,.int .i64 g2,.int .i64 t1,.int .i64 t2] 36)).alloc (.cells #[.int .i64 0,.int .i64 0,.int .i64 0,.int .i64 0] 34)).alloc (.cells #[.int .i64 0,.int .i64 0] 32)=W:=⟨_,rfl⟩
 have HW:Hid (((w.alloc (.cells #[.int .i64 x0,.int .i64 x1,.int .i64 x2,.int .i64 f1,.int .i64 f2,.int .i64 g1,.int .i64 g2,.int .i64 t1,.int .i64 t2] 36)).alloc (.cells #[.int .i64 0,.int .i64 0,.int .i64 0,.int .i64 0] 34)).alloc (.cells #[.int .i64 0,.int .i64 0] 32)=W):=hW
 have kW:Hid (Kp w W Nul):=by show Kp _ _ _;rw[<- hW];exact(((Kp.refl w Nul).alloc _).alloc _).alloc _
 have HB0:Hid (∀wq,Kp W wq Nul->Blk wq w.heap.size [.int .i64 x0,.int .i64 x1,.int .i64 x2,.int .i64 f1,.int .i64 f2,.int .i64 g1,.int .i64 g2,.int .i64 t1,.int .i64 t2] 36):=fun wq k=>by
  have:Blk W w.heap.size [.int .i64 x0,.int .i64 x1,.int .i64 x2,.int .i64 f1,.int .i64 f2,.int .i64 g1,.int .i64 g2,.int .i64 t1,.int .i64 t2] 36:=by rw[<- hW];exact((Blk.new w [.int .i64 x0,.int .i64 x1,.int .i64 x2,.int .i64 f1,.int .i64 f2,.int .i64 g1,.int .i64 g2,.int .i64 t1,.int .i64 t2] _).alloc _).alloc _
  exact this.kp k (fun x=>x)
 have HB1:Hid (∀wq,Kp W wq Nul->Blk wq (w.heap.size+1) [.int .i64 0,.int .i64 0,.int .i64 0,.int .i64 0] 34):=fun wq k=>by
  have:Blk W (w.heap.size+1) [.int .i64 0,.int .i64 0,.int .i64 0,.int .i64 0] 34:=by rw[<- hW];exact(blk2 (cs:=[.int .i64 0,.int .i64 0,.int .i64 0,.int .i64 0])).alloc _
  exact this.kp k (fun x=>x)
 have HB2:Hid (∀wq,Kp W wq Nul->Blk wq (w.heap.size+1+1) [.int .i64 0,.int .i64 0] 32):=fun wq k=>by
  have:Blk W (w.heap.size+1+1) [.int .i64 0,.int .i64 0] 32:=by rw[<- hW];exact blk3
  exact this.kp k (fun x=>x)
 have HWs:Hid (w.heap.size+3<=W.heap.size):=by show _<=_;rw[<- hW,World.size_alloc,World.size_alloc,World.size_alloc];omega
 clear hW
 go_enter Tryz.func14,Tryz.ntmps14
 go_upto_region 1 with fail
 rw[HW.out]
 clear HW
 go_cut[4] from 6 to 18 (fun s wz=>∃b,s=.pointer (some ⟨b,0,none⟩)/\Blk wz b [.int .i64 (1+r1),.int .i64 (1+r2)] 32/\Kp W wz Nul/\W.heap.size<=b)
 case first=>
  refine wp_region_hel (fun w':World=>Kp W w' Nul) (by kernel_rfl) ((Kp.refl _ _).drew) (fun hHeld=>?_)
  refine wpH_takes (i:=0) (v:=.pointer (some ⟨w.heap.size,3,none⟩)) (some 6) rfl rfl (by kernel_rfl) (fun _ _ _ h=>h) (Or.inl ⟨by rfl,?_⟩) hHeld ?_
  ·intro w' hSw;clear hSw;go_simp
  simp only[Act.put,Sz0,Sz1,Sz2]
  refine wpH_takes (i:=1) (v:=.pointer (some ⟨w.heap.size,3,none⟩)) (some 7) rfl rfl (by kernel_rfl) (fun _ _ _ h=>h) (Or.inl ⟨by rfl,?_⟩) hHeld ?_
  ·intro w' hSw;clear hSw;go_simp
  simp only[Act.put,Sz0,Sz1,Sz2]
  refine wpH_takes (i:=2) (v:=.pointer (some ⟨w.heap.size,3,none⟩)) (some 8) rfl rfl (by kernel_rfl) (fun _ _ _ h=>h) (Or.inl ⟨by rfl,?_⟩) hHeld ?_
  ·intro w' hSw;clear hSw;go_simp
  simp only[Act.put,Sz0,Sz1,Sz2]
  refine wpH_takes (i:=3) (v:=.int .i64 f1) (some 9) rfl rfl (by kernel_rfl) (fun _ _ _ h=>h) (Or.inl ⟨by rfl,?_⟩) hHeld ?_
  ·intro w' hSw;have s0:=(HB0.out w' hSw).cell (i:=3) rfl;clear hSw;go_simp
  simp only[Act.put,Sz0,Sz1,Sz2]
  refine wpH_takes (i:=6) (v:=.pointer (some ⟨w.heap.size,3,none⟩)) (some 12) rfl rfl (by kernel_rfl) (fun _ _ _ h=>h) (Or.inl ⟨by rfl,?_⟩) hHeld ?_
  ·intro w' hSw;clear hSw;go_simp
  simp only[Act.put,Sz0,Sz1,Sz2]
  refine wpH_takes (i:=7) (v:=.pointer (some ⟨w.heap.size,3,none⟩)) (some 13) rfl rfl (by kernel_rfl) (fun _ _ _ h=>h) (Or.inl ⟨by rfl,?_⟩) hHeld ?_
  ·intro w' hSw;clear hSw;go_simp
  simp only[Act.put,Sz0,Sz1,Sz2]
  refine wpH_takes (i:=8) (v:=.pointer (some ⟨w.heap.size,4,none⟩)) (some 14) rfl rfl (by kernel_rfl) (fun _ _ _ h=>h) (Or.inl ⟨by rfl,?_⟩) hHeld ?_
  ·intro w' hSw;clear hSw;go_simp
  simp only[Act.put,Sz0,Sz1,Sz2]
  refine wpH_takes (i:=9) (v:=.int .i64 f2) (some 15) rfl rfl (by kernel_rfl) (fun _ _ _ h=>h) (Or.inl ⟨by rfl,?_⟩) hHeld ?_
  ·intro w' hSw;have s0:=(HB0.out w' hSw).cell (i:=4) rfl;clear hSw;go_simp
  simp only[Act.put,Sz0,Sz1,Sz2]
  refine wpH_fork (i:=4) (j:=13) (by kernel_rfl) rfl rfl rfl rfl (fun K hK=>?_) (fun K hK=>?_)
  ·go_simp
   refine(P1.out _).mono ?_
   rintro e v1 ⟨rfl,hk2⟩
   have L1:Hid (Kp W v1 Nul):=(Kp.refl W Nul).drew.trans hk2
   refine hK.out _ _ L1.out (fun hHeld=>?_)
   clear hK K hk2
   (try simp only[Act.put,Sz0,Sz1,Sz2])
   refine wpH_takes (i:=5) (v:=.int .i64 (1+r1)) (some 11) rfl rfl (by kernel_rfl) (fun _ _ _ h=>h) (Or.inl ⟨by rfl,?_⟩) hHeld ?_
   ·intro w' hSw;clear hSw;go_simp;rw[IntKind.wrap_i64];omega
   simp only[Act.put,Sz0,Sz1,Sz2]
   refine wpH_fork (i:=10) (j:=13) (by kernel_rfl) rfl rfl rfl rfl (fun K hK=>?_) (fun K hK=>?_)
   ·go_simp
    refine(P2.out _).mono ?_
    rintro e v2 ⟨rfl,hk2⟩
    have L2:Hid (Kp W v2 Nul):=L1.out.trans hk2
    refine hK.out _ _ L2.out (fun hHeld=>?_)
    clear hK K hk2
    (try simp only[Act.put,Sz0,Sz1,Sz2])
    refine wpH_takes (i:=11) (v:=.int .i64 (1+r2)) (some 17) rfl rfl (by kernel_rfl) (fun _ _ _ h=>h) (Or.inl ⟨by rfl,?_⟩) hHeld ?_
    ·intro w' hSw;clear hSw;go_simp;rw[IntKind.wrap_i64];omega
    simp only[Act.put,Sz0,Sz1,Sz2]
    refine wpH_fork (i:=12) (j:=13) (by kernel_rfl) rfl rfl rfl rfl (fun K hK=>?_) (fun K hK=>?_)
    ·go_simp
     refine(HAt.out _ _ _).mono ?_
     rintro e v3 ⟨rfl,hk2⟩
     have L3:Hid (Kp W v3 Nul):=L2.out.trans hk2
     refine hK.out _ _ L3.out (fun hHeld=>?_)
     clear hK K hk2
     (try simp only[Act.put,Sz0,Sz1,Sz2])
     refine wpH_step (i:=13) (by kernel_rfl) rfl rfl (fun K hK=>?_)
     go_simp
     have BSZ:Hid (W.heap.size<=v3.heap.size):=L3.out.size
     have N4:Hid (Blk (v3.alloc (.cells #[.int .i64 0,.int .i64 0] 32)) v3.heap.size [.int .i64 0,.int .i64 0] 32):=Blk.new v3 [.int .i64 0,.int .i64 0] 32
     have L4:Hid (Kp W (v3.alloc (.cells #[.int .i64 0,.int .i64 0] 32)) Nul):=L3.out.alloc _
     refine hK.out _ _ L4.out (fun hHeld=>?_)
     clear hK K
     (try simp only[Act.put,Sz0,Sz1,Sz2])
     refine wpH_step (i:=14) (by kernel_rfl) rfl rfl (fun K hK=>?_)
     refine wp_store_blk 32 (.tmp 4) (.tmp 18) rfl _ _ [.int .i64 (1+r1),.int .i64 (1+r2)] _ N4.out rfl rfl rfl infoAddr2' (ints2 _ _) ?_
     intro Y hbY hkY
     have LY:Hid (Kp W Y Nul):=L4.out.trans' hkY (fun i hi e=>Nat.lt_irrefl _ (Nat.lt_of_lt_of_le (show i<_ from hi) (Nat.le_trans BSZ.out (Nat.le_of_eq (Eq.symm e)))))
     refine hK.out _ _ LY.out (fun hHeld=>?_)
     clear hK K
     (try simp only[Act.put])
     refine wpAnyH_done (by kernel_rfl) ?_ _
     go_wp2_with fail
     go_meet
     case rel=>exact⟨_,rfl,hbY,LY.out,BSZ.out⟩
    ·go_simp
     have BSZ:Hid (W.heap.size<=v2.heap.size):=L2.out.size
     have N5:Hid (∀wq,Kp (v2.alloc (.cells #[.int .i64 0,.int .i64 0] 32)) wq Nul->Blk wq v2.heap.size [.int .i64 0,.int .i64 0] 32):=fun wq k=>(Blk.new v2 [.int .i64 0,.int .i64 0] 32).kp k (fun x=>x)
     have J5:Hid (Kp W (v2.alloc (.cells #[.int .i64 0,.int .i64 0] 32)) Nul):=L2.out.alloc _
     refine hK.out _ _ J5.out (fun hHeld=>?_)
     clear hK K
     (try simp only[Act.put,Sz0,Sz1,Sz2])
     refine wpH_step (i:=12) (by kernel_rfl) rfl rfl (fun K hK=>?_)
     go_simp
     refine(HAt.out _ _ _).mono ?_
     rintro e v6 ⟨rfl,hk2⟩
     have L6:Hid (Kp W v6 Nul):=J5.out.trans hk2
     have I6:Hid (Kp (v2.alloc (.cells #[.int .i64 0,.int .i64 0] 32)) v6 Nul):=(Kp.refl _ _).trans hk2
     refine hK.out _ _ L6.out (fun hHeld=>?_)
     clear hK K hk2
     (try simp only[Act.put,Sz0,Sz1,Sz2])
     refine wpH_step (i:=14) (by kernel_rfl) rfl rfl (fun K hK=>?_)
     refine wp_store_blk 32 (.tmp 4) (.tmp 18) rfl _ _ [.int .i64 (1+r1),.int .i64 (1+r2)] _ (N5.out _ I6.out) rfl rfl rfl infoAddr2' (ints2 _ _) ?_
     intro Y hbY hkY
     have LY:Hid (Kp W Y Nul):=L6.out.trans' hkY (fun i hi e=>Nat.lt_irrefl _ (Nat.lt_of_lt_of_le (show i<_ from hi) (Nat.le_trans BSZ.out (Nat.le_of_eq (Eq.symm e)))))
     refine hK.out _ _ LY.out (fun hHeld=>?_)
     clear hK K
     (try simp only[Act.put])
     refine wpAnyH_done (by kernel_rfl) ?_ _
     go_wp2_with fail
     go_meet
     case rel=>exact⟨_,rfl,hbY,LY.out,BSZ.out⟩
   ·go_simp
    have BSZ:Hid (W.heap.size<=v1.heap.size):=L1.out.size
    have N7:Hid (∀wq,Kp (v1.alloc (.cells #[.int .i64 0,.int .i64 0] 32)) wq Nul->Blk wq v1.heap.size [.int .i64 0,.int .i64 0] 32):=fun wq k=>(Blk.new v1 [.int .i64 0,.int .i64 0] 32).kp k (fun x=>x)
    have J7:Hid (Kp W (v1.alloc (.cells #[.int .i64 0,.int .i64 0] 32)) Nul):=L1.out.alloc _
    refine hK.out _ _ J7.out (fun hHeld=>?_)
    clear hK K
    (try simp only[Act.put,Sz0,Sz1,Sz2])
    refine wpH_step (i:=10) (by kernel_rfl) rfl rfl (fun K hK=>?_)
    go_simp
    refine(P2.out _).mono ?_
    rintro e v8 ⟨rfl,hk2⟩
    have L8:Hid (Kp W v8 Nul):=J7.out.trans hk2
    have I8:Hid (Kp (v1.alloc (.cells #[.int .i64 0,.int .i64 0] 32)) v8 Nul):=(Kp.refl _ _).trans hk2
    refine hK.out _ _ L8.out (fun hHeld=>?_)
    clear hK K hk2
    (try simp only[Act.put,Sz0,Sz1,Sz2])
    refine wpH_takes (i:=11) (v:=.int .i64 (1+r2)) (some 17) rfl rfl (by kernel_rfl) (fun _ _ _ h=>h) (Or.inl ⟨by rfl,?_⟩) hHeld ?_
    ·intro w' hSw;clear hSw;go_simp;rw[IntKind.wrap_i64];omega
    simp only[Act.put,Sz0,Sz1,Sz2]
    refine wpH_step (i:=12) (by kernel_rfl) rfl rfl (fun K hK=>?_)
    go_simp
    refine(HAt.out _ _ _).mono ?_
    rintro e v9 ⟨rfl,hk2⟩
    have L9:Hid (Kp W v9 Nul):=L8.out.trans hk2
    have I9:Hid (Kp (v1.alloc (.cells #[.int .i64 0,.int .i64 0] 32)) v9 Nul):=I8.out.trans hk2
    refine hK.out _ _ L9.out (fun hHeld=>?_)
    clear hK K hk2
    (try simp only[Act.put,Sz0,Sz1,Sz2])
    refine wpH_step (i:=14) (by kernel_rfl) rfl rfl (fun K hK=>?_)
    refine wp_store_blk 32 (.tmp 4) (.tmp 18) rfl _ _ [.int .i64 (1+r1),.int .i64 (1+r2)] _ (N7.out _ I9.out) rfl rfl rfl infoAddr2' (ints2 _ _) ?_
    intro Y hbY hkY
    have LY:Hid (Kp W Y Nul):=L9.out.trans' hkY (fun i hi e=>Nat.lt_irrefl _ (Nat.lt_of_lt_of_le (show i<_ from hi) (Nat.le_trans BSZ.out (Nat.le_of_eq (Eq.symm e)))))
    refine hK.out _ _ LY.out (fun hHeld=>?_)
    clear hK K
    (try simp only[Act.put])
    refine wpAnyH_done (by kernel_rfl) ?_ _
    go_wp2_with fail
    go_meet
    case rel=>exact⟨_,rfl,hbY,LY.out,BSZ.out⟩
  ·go_simp
   have BSZ:Hid (W.heap.size<=W.drew.heap.size):=(Kp.refl W Nul).drew.size
   have N10:Hid (∀wq,Kp (W.drew.alloc (.cells #[.int .i64 0,.int .i64 0] 32)) wq Nul->Blk wq W.drew.heap.size [.int .i64 0,.int .i64 0] 32):=fun wq k=>(Blk.new W.drew [.int .i64 0,.int .i64 0] 32).kp k (fun x=>x)
   have J10:Hid (Kp W (W.drew.alloc (.cells #[.int .i64 0,.int .i64 0] 32)) Nul):=(Kp.refl W Nul).drew.alloc _
   refine hK.out _ _ J10.out (fun hHeld=>?_)
   clear hK K
   (try simp only[Act.put,Sz0,Sz1,Sz2])
   refine wpH_step (i:=4) (by kernel_rfl) rfl rfl (fun K hK=>?_)
   go_simp
   refine(P1.out _).mono ?_
   rintro e v11 ⟨rfl,hk2⟩
   have L11:Hid (Kp W v11 Nul):=J10.out.trans hk2
   have I11:Hid (Kp (W.drew.alloc (.cells #[.int .i64 0,.int .i64 0] 32)) v11 Nul):=(Kp.refl _ _).trans hk2
   refine hK.out _ _ L11.out (fun hHeld=>?_)
   clear hK K hk2
   (try simp only[Act.put,Sz0,Sz1,Sz2])
   refine wpH_takes (i:=5) (v:=.int .i64 (1+r1)) (some 11) rfl rfl (by kernel_rfl) (fun _ _ _ h=>h) (Or.inl ⟨by rfl,?_⟩) hHeld ?_
   ·intro w' hSw;clear hSw;go_simp;rw[IntKind.wrap_i64];omega
   simp only[Act.put,Sz0,Sz1,Sz2]
   refine wpH_step (i:=10) (by kernel_rfl) rfl rfl (fun K hK=>?_)
   go_simp
   refine(P2.out _).mono ?_
   rintro e v12 ⟨rfl,hk2⟩
   have L12:Hid (Kp W v12 Nul):=L11.out.trans hk2
   have I12:Hid (Kp (W.drew.alloc (.cells #[.int .i64 0,.int .i64 0] 32)) v12 Nul):=I11.out.trans hk2
   refine hK.out _ _ L12.out (fun hHeld=>?_)
   clear hK K hk2
   (try simp only[Act.put,Sz0,Sz1,Sz2])
   refine wpH_takes (i:=11) (v:=.int .i64 (1+r2)) (some 17) rfl rfl (by kernel_rfl) (fun _ _ _ h=>h) (Or.inl ⟨by rfl,?_⟩) hHeld ?_
   ·intro w' hSw;clear hSw;go_simp;rw[IntKind.wrap_i64];omega
   simp only[Act.put,Sz0,Sz1,Sz2]
   refine wpH_step (i:=12) (by kernel_rfl) rfl rfl (fun K hK=>?_)
   go_simp
   refine(HAt.out _ _ _).mono ?_
   rintro e v13 ⟨rfl,hk2⟩
   have L13:Hid (Kp W v13 Nul):=L12.out.trans hk2
   have I13:Hid (Kp (W.drew.alloc (.cells #[.int .i64 0,.int .i64 0] 32)) v13 Nul):=I12.out.trans hk2
   refine hK.out _ _ L13.out (fun hHeld=>?_)
   clear hK K hk2
   (try simp only[Act.put,Sz0,Sz1,Sz2])
   refine wpH_step (i:=14) (by kernel_rfl) rfl rfl (fun K hK=>?_)
   refine wp_store_blk 32 (.tmp 4) (.tmp 18) rfl _ _ [.int .i64 (1+r1),.int .i64 (1+r2)] _ (N10.out _ I13.out) rfl rfl rfl infoAddr2' (ints2 _ _) ?_
   intro Y hbY hkY
   have LY:Hid (Kp W Y Nul):=L13.out.trans' hkY (fun i hi e=>Nat.lt_irrefl _ (Nat.lt_of_lt_of_le (show i<_ from hi) (Nat.le_trans BSZ.out (Nat.le_of_eq (Eq.symm e)))))
   refine hK.out _ _ LY.out (fun hHeld=>?_)
   clear hK K
   (try simp only[Act.put])
   refine wpAnyH_done (by kernel_rfl) ?_ _
   go_wp2_with fail
   go_meet
   case rel=>exact⟨_,rfl,hbY,LY.out,BSZ.out⟩
 case rest=>
  obtain⟨b1,rfl,hb1,hk1,hz1⟩:=hcut
  rename World=>wx
  have KX:Hid (Kp W wx Nul):=hk1
  have HBa:Hid (Blk wx b1 [.int .i64 (1+r1),.int .i64 (1+r2)] 32):=hb1
  have HZ1:Hid (W.heap.size<=b1):=hz1
  have HD0:Hid (∀wq,Kp wx wq Nul->Blk wq w.heap.size [.int .i64 x0,.int .i64 x1,.int .i64 x2,.int .i64 f1,.int .i64 f2,.int .i64 g1,.int .i64 g2,.int .i64 t1,.int .i64 t2] 36):=fun wq k=>HB0.out wq (hk1.trans k)
  have HD1:Hid (∀wq,Kp wx wq Nul->Blk wq b1 [.int .i64 (1+r1),.int .i64 (1+r2)] 32):=fun wq k=>hb1.kp k (fun x=>x)
  clear hb1 hk1 hz1
  go_upto_region 2 with fail
  go_cut[5] from 19 to 35 (fun s wz=>∃b,s=.pointer (some ⟨b,0,none⟩)/\Blk wz b [.int .i64 (1+r1+r3),.int .i64 (1+r2+r4)] 32/\Kp wx wz Nul/\wx.heap.size<=b)
  case first=>
   refine wp_region_hel (fun w':World=>Kp wx w' Nul) (by kernel_rfl) ((Kp.refl _ _).drew) (fun hHeld=>?_)
   refine wpH_takes (i:=0) (v:=.pointer (some ⟨b1,0,none⟩)) (some 19) rfl rfl (by kernel_rfl) (fun _ _ _ h=>h) (Or.inl ⟨by rfl,?_⟩) hHeld ?_
   ·intro w' hSw;clear hSw;go_simp
   simp only[Act.put,Sz0,Sz1,Sz2]
   refine wpH_takes (i:=1) (v:=.int .i64 (1+r1)) (some 20) rfl rfl (by kernel_rfl) (fun _ _ _ h=>h) (Or.inl ⟨by rfl,?_⟩) hHeld ?_
   ·intro w' hSw;have s0:=(HD1.out w' hSw).cell (i:=0) rfl;clear hSw;go_simp
   simp only[Act.put,Sz0,Sz1,Sz2]
   refine wpH_takes (i:=2) (v:=.pointer (some ⟨w.heap.size,3,none⟩)) (some 21) rfl rfl (by kernel_rfl) (fun _ _ _ h=>h) (Or.inl ⟨by rfl,?_⟩) hHeld ?_
   ·intro w' hSw;clear hSw;go_simp
   simp only[Act.put,Sz0,Sz1,Sz2]
   refine wpH_takes (i:=3) (v:=.pointer (some ⟨w.heap.size,5,none⟩)) (some 22) rfl rfl (by kernel_rfl) (fun _ _ _ h=>h) (Or.inl ⟨by rfl,?_⟩) hHeld ?_
   ·intro w' hSw;clear hSw;go_simp
   simp only[Act.put,Sz0,Sz1,Sz2]
   refine wpH_takes (i:=4) (v:=.pointer (some ⟨w.heap.size,5,none⟩)) (some 23) rfl rfl (by kernel_rfl) (fun _ _ _ h=>h) (Or.inl ⟨by rfl,?_⟩) hHeld ?_
   ·intro w' hSw;clear hSw;go_simp
   simp only[Act.put,Sz0,Sz1,Sz2]
   refine wpH_takes (i:=5) (v:=.int .i64 g1) (some 24) rfl rfl (by kernel_rfl) (fun _ _ _ h=>h) (Or.inl ⟨by rfl,?_⟩) hHeld ?_
   ·intro w' hSw;have s0:=(HD0.out w' hSw).cell (i:=5) rfl;clear hSw;go_simp
   simp only[Act.put,Sz0,Sz1,Sz2]
   refine wpH_takes (i:=8) (v:=.pointer (some ⟨b1,1,none⟩)) (some 27) rfl rfl (by kernel_rfl) (fun _ _ _ h=>h) (Or.inl ⟨by rfl,?_⟩) hHeld ?_
   ·intro w' hSw;clear hSw;go_simp
   simp only[Act.put,Sz0,Sz1,Sz2]
   refine wpH_takes (i:=9) (v:=.int .i64 (1+r2)) (some 28) rfl rfl (by kernel_rfl) (fun _ _ _ h=>h) (Or.inl ⟨by rfl,?_⟩) hHeld ?_
   ·intro w' hSw;have s0:=(HD1.out w' hSw).cell (i:=1) rfl;clear hSw;go_simp
   simp only[Act.put,Sz0,Sz1,Sz2]
   refine wpH_takes (i:=10) (v:=.pointer (some ⟨w.heap.size,3,none⟩)) (some 29) rfl rfl (by kernel_rfl) (fun _ _ _ h=>h) (Or.inl ⟨by rfl,?_⟩) hHeld ?_
   ·intro w' hSw;clear hSw;go_simp
   simp only[Act.put,Sz0,Sz1,Sz2]
   refine wpH_takes (i:=11) (v:=.pointer (some ⟨w.heap.size,5,none⟩)) (some 30) rfl rfl (by kernel_rfl) (fun _ _ _ h=>h) (Or.inl ⟨by rfl,?_⟩) hHeld ?_
   ·intro w' hSw;clear hSw;go_simp
   simp only[Act.put,Sz0,Sz1,Sz2]
   refine wpH_takes (i:=12) (v:=.pointer (some ⟨w.heap.size,6,none⟩)) (some 31) rfl rfl (by kernel_rfl) (fun _ _ _ h=>h) (Or.inl ⟨by rfl,?_⟩) hHeld ?_
   ·intro w' hSw;clear hSw;go_simp
   simp only[Act.put,Sz0,Sz1,Sz2]
   refine wpH_takes (i:=13) (v:=.int .i64 g2) (some 32) rfl rfl (by kernel_rfl) (fun _ _ _ h=>h) (Or.inl ⟨by rfl,?_⟩) hHeld ?_
   ·intro w' hSw;have s0:=(HD0.out w' hSw).cell (i:=6) rfl;clear hSw;go_simp
   simp only[Act.put,Sz0,Sz1,Sz2]
   refine wpH_fork (i:=6) (j:=17) (by kernel_rfl) rfl rfl rfl rfl (fun K hK=>?_) (fun K hK=>?_)
   ·go_simp
    refine(P3.out _).mono ?_
    rintro e v14 ⟨rfl,hk2⟩
    have L14:Hid (Kp wx v14 Nul):=(Kp.refl wx Nul).drew.trans hk2
    refine hK.out _ _ L14.out (fun hHeld=>?_)
    clear hK K hk2
    (try simp only[Act.put,Sz0,Sz1,Sz2])
    refine wpH_takes (i:=7) (v:=.int .i64 (1+r1+r3)) (some 26) rfl rfl (by kernel_rfl) (fun _ _ _ h=>h) (Or.inl ⟨by rfl,?_⟩) hHeld ?_
    ·intro w' hSw;clear hSw;go_simp;rw[IntKind.wrap_i64];omega
    simp only[Act.put,Sz0,Sz1,Sz2]
    refine wpH_fork (i:=14) (j:=17) (by kernel_rfl) rfl rfl rfl rfl (fun K hK=>?_) (fun K hK=>?_)
    ·go_simp
     refine(P4.out _).mono ?_
     rintro e v15 ⟨rfl,hk2⟩
     have L15:Hid (Kp wx v15 Nul):=L14.out.trans hk2
     refine hK.out _ _ L15.out (fun hHeld=>?_)
     clear hK K hk2
     (try simp only[Act.put,Sz0,Sz1,Sz2])
     refine wpH_takes (i:=15) (v:=.int .i64 (1+r2+r4)) (some 34) rfl rfl (by kernel_rfl) (fun _ _ _ h=>h) (Or.inl ⟨by rfl,?_⟩) hHeld ?_
     ·intro w' hSw;clear hSw;go_simp;rw[IntKind.wrap_i64];omega
     simp only[Act.put,Sz0,Sz1,Sz2]
     refine wpH_fork (i:=16) (j:=17) (by kernel_rfl) rfl rfl rfl rfl (fun K hK=>?_) (fun K hK=>?_)
     ·go_simp
      refine(HAt.out _ _ _).mono ?_
      rintro e v16 ⟨rfl,hk2⟩
      have L16:Hid (Kp wx v16 Nul):=L15.out.trans hk2
      refine hK.out _ _ L16.out (fun hHeld=>?_)
      clear hK K hk2
      (try simp only[Act.put,Sz0,Sz1,Sz2])
      refine wpH_step (i:=17) (by kernel_rfl) rfl rfl (fun K hK=>?_)
      go_simp
      have BSZ:Hid (wx.heap.size<=v16.heap.size):=L16.out.size
      have N17:Hid (Blk (v16.alloc (.cells #[.int .i64 0,.int .i64 0] 32)) v16.heap.size [.int .i64 0,.int .i64 0] 32):=Blk.new v16 [.int .i64 0,.int .i64 0] 32
      have L17:Hid (Kp wx (v16.alloc (.cells #[.int .i64 0,.int .i64 0] 32)) Nul):=L16.out.alloc _
      refine hK.out _ _ L17.out (fun hHeld=>?_)
      clear hK K
      (try simp only[Act.put,Sz0,Sz1,Sz2])
      refine wpH_step (i:=18) (by kernel_rfl) rfl rfl (fun K hK=>?_)
      refine wp_store_blk 32 (.tmp 5) (.tmp 35) rfl _ _ [.int .i64 (1+r1+r3),.int .i64 (1+r2+r4)] _ N17.out rfl rfl rfl infoAddr2' (ints2 _ _) ?_
      intro Y hbY hkY
      have LY:Hid (Kp wx Y Nul):=L17.out.trans' hkY (fun i hi e=>Nat.lt_irrefl _ (Nat.lt_of_lt_of_le (show i<_ from hi) (Nat.le_trans BSZ.out (Nat.le_of_eq (Eq.symm e)))))
      refine hK.out _ _ LY.out (fun hHeld=>?_)
      clear hK K
      (try simp only[Act.put])
      refine wpAnyH_done (by kernel_rfl) ?_ _
      go_wp2_with fail
      go_meet
      case rel=>exact⟨_,rfl,hbY,LY.out,BSZ.out⟩
     ·go_simp
      have BSZ:Hid (wx.heap.size<=v15.heap.size):=L15.out.size
      have N18:Hid (∀wq,Kp (v15.alloc (.cells #[.int .i64 0,.int .i64 0] 32)) wq Nul->Blk wq v15.heap.size [.int .i64 0,.int .i64 0] 32):=fun wq k=>(Blk.new v15 [.int .i64 0,.int .i64 0] 32).kp k (fun x=>x)
      have J18:Hid (Kp wx (v15.alloc (.cells #[.int .i64 0,.int .i64 0] 32)) Nul):=L15.out.alloc _
      refine hK.out _ _ J18.out (fun hHeld=>?_)
      clear hK K
      (try simp only[Act.put,Sz0,Sz1,Sz2])
      refine wpH_step (i:=16) (by kernel_rfl) rfl rfl (fun K hK=>?_)
      go_simp
      refine(HAt.out _ _ _).mono ?_
      rintro e v19 ⟨rfl,hk2⟩
      have L19:Hid (Kp wx v19 Nul):=J18.out.trans hk2
      have I19:Hid (Kp (v15.alloc (.cells #[.int .i64 0,.int .i64 0] 32)) v19 Nul):=(Kp.refl _ _).trans hk2
      refine hK.out _ _ L19.out (fun hHeld=>?_)
      clear hK K hk2
      (try simp only[Act.put,Sz0,Sz1,Sz2])
      refine wpH_step (i:=18) (by kernel_rfl) rfl rfl (fun K hK=>?_)
      refine wp_store_blk 32 (.tmp 5) (.tmp 35) rfl _ _ [.int .i64 (1+r1+r3),.int .i64 (1+r2+r4)] _ (N18.out _ I19.out) rfl rfl rfl infoAddr2' (ints2 _ _) ?_
      intro Y hbY hkY
      have LY:Hid (Kp wx Y Nul):=L19.out.trans' hkY (fun i hi e=>Nat.lt_irrefl _ (Nat.lt_of_lt_of_le (show i<_ from hi) (Nat.le_trans BSZ.out (Nat.le_of_eq (Eq.symm e)))))
      refine hK.out _ _ LY.out (fun hHeld=>?_)
      clear hK K
      (try simp only[Act.put])
      refine wpAnyH_done (by kernel_rfl) ?_ _
      go_wp2_with fail
      go_meet
      case rel=>exact⟨_,rfl,hbY,LY.out,BSZ.out⟩
    ·go_simp
     have BSZ:Hid (wx.heap.size<=v14.heap.size):=L14.out.size
     have N20:Hid (∀wq,Kp (v14.alloc (.cells #[.int .i64 0,.int .i64 0] 32)) wq Nul->Blk wq v14.heap.size [.int .i64 0,.int .i64 0] 32):=fun wq k=>(Blk.new v14 [.int .i64 0,.int .i64 0] 32).kp k (fun x=>x)
     have J20:Hid (Kp wx (v14.alloc (.cells #[.int .i64 0,.int .i64 0] 32)) Nul):=L14.out.alloc _
     refine hK.out _ _ J20.out (fun hHeld=>?_)
     clear hK K
     (try simp only[Act.put,Sz0,Sz1,Sz2])
     refine wpH_step (i:=14) (by kernel_rfl) rfl rfl (fun K hK=>?_)
     go_simp
     refine(P4.out _).mono ?_
     rintro e v21 ⟨rfl,hk2⟩
     have L21:Hid (Kp wx v21 Nul):=J20.out.trans hk2
     have I21:Hid (Kp (v14.alloc (.cells #[.int .i64 0,.int .i64 0] 32)) v21 Nul):=(Kp.refl _ _).trans hk2
     refine hK.out _ _ L21.out (fun hHeld=>?_)
     clear hK K hk2
     (try simp only[Act.put,Sz0,Sz1,Sz2])
     refine wpH_takes (i:=15) (v:=.int .i64 (1+r2+r4)) (some 34) rfl rfl (by kernel_rfl) (fun _ _ _ h=>h) (Or.inl ⟨by rfl,?_⟩) hHeld ?_
     ·intro w' hSw;clear hSw;go_simp;rw[IntKind.wrap_i64];omega
     simp only[Act.put,Sz0,Sz1,Sz2]
     refine wpH_step (i:=16) (by kernel_rfl) rfl rfl (fun K hK=>?_)
     go_simp
     refine(HAt.out _ _ _).mono ?_
     rintro e v22 ⟨rfl,hk2⟩
     have L22:Hid (Kp wx v22 Nul):=L21.out.trans hk2
     have I22:Hid (Kp (v14.alloc (.cells #[.int .i64 0,.int .i64 0] 32)) v22 Nul):=I21.out.trans hk2
     refine hK.out _ _ L22.out (fun hHeld=>?_)
     clear hK K hk2
     (try simp only[Act.put,Sz0,Sz1,Sz2])
     refine wpH_step (i:=18) (by kernel_rfl) rfl rfl (fun K hK=>?_)
     refine wp_store_blk 32 (.tmp 5) (.tmp 35) rfl _ _ [.int .i64 (1+r1+r3),.int .i64 (1+r2+r4)] _ (N20.out _ I22.out) rfl rfl rfl infoAddr2' (ints2 _ _) ?_
     intro Y hbY hkY
     have LY:Hid (Kp wx Y Nul):=L22.out.trans' hkY (fun i hi e=>Nat.lt_irrefl _ (Nat.lt_of_lt_of_le (show i<_ from hi) (Nat.le_trans BSZ.out (Nat.le_of_eq (Eq.symm e)))))
     refine hK.out _ _ LY.out (fun hHeld=>?_)
     clear hK K
     (try simp only[Act.put])
     refine wpAnyH_done (by kernel_rfl) ?_ _
     go_wp2_with fail
     go_meet
     case rel=>exact⟨_,rfl,hbY,LY.out,BSZ.out⟩
   ·go_simp
    have BSZ:Hid (wx.heap.size<=wx.drew.heap.size):=(Kp.refl wx Nul).drew.size
    have N23:Hid (∀wq,Kp (wx.drew.alloc (.cells #[.int .i64 0,.int .i64 0] 32)) wq Nul->Blk wq wx.drew.heap.size [.int .i64 0,.int .i64 0] 32):=fun wq k=>(Blk.new wx.drew [.int .i64 0,.int .i64 0] 32).kp k (fun x=>x)
    have J23:Hid (Kp wx (wx.drew.alloc (.cells #[.int .i64 0,.int .i64 0] 32)) Nul):=(Kp.refl wx Nul).drew.alloc _
    refine hK.out _ _ J23.out (fun hHeld=>?_)
    clear hK K
    (try simp only[Act.put,Sz0,Sz1,Sz2])
    refine wpH_step (i:=6) (by kernel_rfl) rfl rfl (fun K hK=>?_)
    go_simp
    refine(P3.out _).mono ?_
    rintro e v24 ⟨rfl,hk2⟩
    have L24:Hid (Kp wx v24 Nul):=J23.out.trans hk2
    have I24:Hid (Kp (wx.drew.alloc (.cells #[.int .i64 0,.int .i64 0] 32)) v24 Nul):=(Kp.refl _ _).trans hk2
    refine hK.out _ _ L24.out (fun hHeld=>?_)
    clear hK K hk2
    (try simp only[Act.put,Sz0,Sz1,Sz2])
    refine wpH_takes (i:=7) (v:=.int .i64 (1+r1+r3)) (some 26) rfl rfl (by kernel_rfl) (fun _ _ _ h=>h) (Or.inl ⟨by rfl,?_⟩) hHeld ?_
    ·intro w' hSw;clear hSw;go_simp;rw[IntKind.wrap_i64];omega
    simp only[Act.put,Sz0,Sz1,Sz2]
    refine wpH_step (i:=14) (by kernel_rfl) rfl rfl (fun K hK=>?_)
    go_simp
    refine(P4.out _).mono ?_
    rintro e v25 ⟨rfl,hk2⟩
    have L25:Hid (Kp wx v25 Nul):=L24.out.trans hk2
    have I25:Hid (Kp (wx.drew.alloc (.cells #[.int .i64 0,.int .i64 0] 32)) v25 Nul):=I24.out.trans hk2
    refine hK.out _ _ L25.out (fun hHeld=>?_)
    clear hK K hk2
    (try simp only[Act.put,Sz0,Sz1,Sz2])
    refine wpH_takes (i:=15) (v:=.int .i64 (1+r2+r4)) (some 34) rfl rfl (by kernel_rfl) (fun _ _ _ h=>h) (Or.inl ⟨by rfl,?_⟩) hHeld ?_
    ·intro w' hSw;clear hSw;go_simp;rw[IntKind.wrap_i64];omega
    simp only[Act.put,Sz0,Sz1,Sz2]
    refine wpH_step (i:=16) (by kernel_rfl) rfl rfl (fun K hK=>?_)
    go_simp
    refine(HAt.out _ _ _).mono ?_
    rintro e v26 ⟨rfl,hk2⟩
    have L26:Hid (Kp wx v26 Nul):=L25.out.trans hk2
    have I26:Hid (Kp (wx.drew.alloc (.cells #[.int .i64 0,.int .i64 0] 32)) v26 Nul):=I25.out.trans hk2
    refine hK.out _ _ L26.out (fun hHeld=>?_)
    clear hK K hk2
    (try simp only[Act.put,Sz0,Sz1,Sz2])
    refine wpH_step (i:=18) (by kernel_rfl) rfl rfl (fun K hK=>?_)
    refine wp_store_blk 32 (.tmp 5) (.tmp 35) rfl _ _ [.int .i64 (1+r1+r3),.int .i64 (1+r2+r4)] _ (N23.out _ I26.out) rfl rfl rfl infoAddr2' (ints2 _ _) ?_
    intro Y hbY hkY
    have LY:Hid (Kp wx Y Nul):=L26.out.trans' hkY (fun i hi e=>Nat.lt_irrefl _ (Nat.lt_of_lt_of_le (show i<_ from hi) (Nat.le_trans BSZ.out (Nat.le_of_eq (Eq.symm e)))))
    refine hK.out _ _ LY.out (fun hHeld=>?_)
    clear hK K
    (try simp only[Act.put])
    refine wpAnyH_done (by kernel_rfl) ?_ _
    go_wp2_with fail
    go_meet
    case rel=>exact⟨_,rfl,hbY,LY.out,BSZ.out⟩
  case rest=>
   obtain⟨b2,rfl,hb2,hk2,hz2⟩:=hcut
   rename World=>wy
   have KY:Hid (Kp W wy Nul):=KX.out.trans hk2
   have HW3:=HWs.out
   have hs:=KX.out.size
   have hz1:=HZ1.out
   have HF0:Hid (∀wq,Kp wy wq (fun i=>i=(w.heap.size+1)∨i=(w.heap.size+1+1))->Blk wq w.heap.size [.int .i64 x0,.int .i64 x1,.int .i64 x2,.int .i64 f1,.int .i64 f2,.int .i64 g1,.int .i64 g2,.int .i64 t1,.int .i64 t2] 36):=fun wq k=>(HB0.out wy KY.out).kp k (fun e=>by rcases e with e|e <;> omega)
   have HF1:Hid (∀wq,Kp wy wq (fun i=>i=(w.heap.size+1)∨i=(w.heap.size+1+1))->Blk wq b1 [.int .i64 (1+r1),.int .i64 (1+r2)] 32):=fun wq k=>(HBa.out.kp hk2 (fun x=>x)).kp k (fun e=>by rcases e with e|e <;> omega)
   have HF2:Hid (∀wq,Kp wy wq (fun i=>i=(w.heap.size+1)∨i=(w.heap.size+1+1))->Blk wq b2 [.int .i64 (1+r1+r3),.int .i64 (1+r2+r4)] 32):=fun wq k=>hb2.kp k (fun e=>by rcases e with e|e <;> omega)
   clear hb2 hk2 hz2 HW3 hs hz1 HD0 HD1
   go_wp2_with fail
   refine wp_region_hel (fun w':World=>Kp wy w' (fun i=>i=(w.heap.size+1)∨i=(w.heap.size+1+1))) (by kernel_rfl) ((Kp.refl _ _).drew) (fun hHeld=>?_)
   refine wpH_takes (i:=0) (v:=.agg #[.int .i64 (1+r1),.int .i64 (1+r2)]) (some 36) rfl rfl (by kernel_rfl) (fun _ _ _ h=>h) (Or.inl ⟨by rfl,fun w' hSw=>exec_load_row 32 (.tmp 4) rfl b1 0 rfl [.int .i64 (1+r1),.int .i64 (1+r2)] _ (blk_range (HF1.out w' hSw)) Tryz.underlying32 rfl infoAddr2'⟩) hHeld ?_
   simp only[Act.put,Sz0,Sz1,Sz2]
   refine wpH_takes (i:=1) (v:=.agg #[.int .i64 (1+r1+r3),.int .i64 (1+r2+r4)]) (some 37) rfl rfl (by kernel_rfl) (fun _ _ _ h=>h) (Or.inl ⟨by rfl,fun w' hSw=>exec_load_row 32 (.tmp 5) rfl b2 0 rfl [.int .i64 (1+r1+r3),.int .i64 (1+r2+r4)] _ (blk_range (HF2.out w' hSw)) Tryz.underlying32 rfl infoAddr2'⟩) hHeld ?_
   simp only[Act.put,Sz0,Sz1,Sz2]
   refine wpH_takes (i:=2) (v:=.agg #[.int .i64 (1+r1),.int .i64 (1+r2),.int .i64 (1+r1+r3),.int .i64 (1+r2+r4)]) (some 38) rfl rfl (by kernel_rfl) (fun _ _ _ h=>h) (Or.inl ⟨by rfl,?_⟩) hHeld ?_
   ·intro w' hSw;clear hSw;go_simp
   simp only[Act.put,Sz0,Sz1,Sz2]
   refine wpH_takes (i:=3) (v:=.pointer (some ⟨w.heap.size,7,none⟩)) (some 39) rfl rfl (by kernel_rfl) (fun _ _ _ h=>h) (Or.inl ⟨by rfl,?_⟩) hHeld ?_
   ·intro w' hSw;clear hSw;go_simp
   simp only[Act.put,Sz0,Sz1,Sz2]
   refine wpH_takes (i:=4) (v:=.pointer (some ⟨w.heap.size,7,none⟩)) (some 40) rfl rfl (by kernel_rfl) (fun _ _ _ h=>h) (Or.inl ⟨by rfl,?_⟩) hHeld ?_
   ·intro w' hSw;clear hSw;go_simp
   simp only[Act.put,Sz0,Sz1,Sz2]
   refine wpH_takes (i:=5) (v:=.int .i64 t1) (some 41) rfl rfl (by kernel_rfl) (fun _ _ _ h=>h) (Or.inl ⟨by rfl,?_⟩) hHeld ?_
   ·intro w' hSw;have s0:=(HF0.out w' hSw).cell (i:=7) rfl;clear hSw;go_simp
   simp only[Act.put,Sz0,Sz1,Sz2]
   refine wpH_takes (i:=8) (v:=.pointer (some ⟨w.heap.size,7,none⟩)) (some 44) rfl rfl (by kernel_rfl) (fun _ _ _ h=>h) (Or.inl ⟨by rfl,?_⟩) hHeld ?_
   ·intro w' hSw;clear hSw;go_simp
   simp only[Act.put,Sz0,Sz1,Sz2]
   refine wpH_takes (i:=9) (v:=.pointer (some ⟨w.heap.size,8,none⟩)) (some 45) rfl rfl (by kernel_rfl) (fun _ _ _ h=>h) (Or.inl ⟨by rfl,?_⟩) hHeld ?_
   ·intro w' hSw;clear hSw;go_simp
   simp only[Act.put,Sz0,Sz1,Sz2]
   refine wpH_takes (i:=10) (v:=.int .i64 t2) (some 46) rfl rfl (by kernel_rfl) (fun _ _ _ h=>h) (Or.inl ⟨by rfl,?_⟩) hHeld ?_
   ·intro w' hSw;have s0:=(HF0.out w' hSw).cell (i:=8) rfl;clear hSw;go_simp
   simp only[Act.put,Sz0,Sz1,Sz2]
   refine wpH_step (i:=6) (by kernel_rfl) rfl rfl (fun K hK=>?_)
   go_simp
   refine(P5.out _).mono ?_
   rintro e s1 ⟨rfl,hk2⟩
   have S1:Hid (Kp wy s1 Nul):=(Kp.refl wy Nul).drew.trans hk2
   refine hK.out _ _ S1.out.of_nul (fun hHeld=>?_)
   clear hK K hk2
   (try simp only[Act.put,Sz0,Sz1,Sz2])
   refine wpH_takes (i:=7) (v:=.int .i64 (1+r5)) (some 43) rfl rfl (by kernel_rfl) (fun _ _ _ h=>h) (Or.inl ⟨by rfl,?_⟩) hHeld ?_
   ·intro w' hSw;clear hSw;go_simp;rw[IntKind.wrap_i64];omega
   simp only[Act.put,Sz0,Sz1,Sz2]
   refine wpH_step (i:=11) (by kernel_rfl) rfl rfl (fun K hK=>?_)
   go_simp
   refine(P6.out _).mono ?_
   rintro e s2 ⟨rfl,hk2⟩
   have S2:Hid (Kp wy s2 Nul):=S1.out.trans hk2
   refine hK.out _ _ S2.out.of_nul (fun hHeld=>?_)
   clear hK K hk2
   (try simp only[Act.put,Sz0,Sz1,Sz2])
   refine wpH_takes (i:=12) (v:=.int .i64 (1+r6)) (some 48) rfl rfl (by kernel_rfl) (fun _ _ _ h=>h) (Or.inl ⟨by rfl,?_⟩) hHeld ?_
   ·intro w' hSw;clear hSw;go_simp;rw[IntKind.wrap_i64];omega
   simp only[Act.put,Sz0,Sz1,Sz2]
   refine wpH_step (i:=13) (by kernel_rfl) rfl rfl (fun K hK=>?_)
   go_simp
   refine(HAt.out _ _ _).mono ?_
   rintro e s3 ⟨rfl,hk2⟩
   have S3:Hid (Kp wy s3 Nul):=S2.out.trans hk2
   refine hK.out _ _ S3.out.of_nul (fun hHeld=>?_)
   clear hK K hk2
   (try simp only[Act.put,Sz0,Sz1,Sz2])
   have HE1:Hid (Blk s3 (w.heap.size+1) [.int .i64 0,.int .i64 0,.int .i64 0,.int .i64 0] 34):=HB1.out _ (KY.out.trans S3.out)
   refine wpH_step (i:=14) (by kernel_rfl) rfl rfl (fun K hK=>?_)
   refine wp_store_blk 34 (.tmp 2) (.tmp 38) rfl (w.heap.size+1) _ [.int .i64 (1+r1),.int .i64 (1+r2),.int .i64 (1+r1+r3),.int .i64 (1+r2+r4)] _ HE1.out rfl rfl rfl infoArea (ints4 _ _ _ _) ?_
   intro Y1 hbY1 hkY1
   have U1:Hid (Kp wy Y1 (fun i=>i=(w.heap.size+1)∨i=(w.heap.size+1+1))):=S3.out.of_nul.trans (hkY1.mono (fun i _ e=>.inl e))
   have HE2:Hid (Blk Y1 (w.heap.size+1+1) [.int .i64 0,.int .i64 0] 32):=(HB2.out _ (KY.out.trans S3.out)).kp hkY1 (fun e=>by have e':w.heap.size+1+1=w.heap.size+1:=e;omega)
   refine hK.out _ _ U1.out (fun hHeld=>?_)
   clear hK K
   (try simp only[Act.put])
   refine wpH_step (i:=15) (by kernel_rfl) rfl rfl (fun K hK=>?_)
   refine wp_store_blk 32 (.tmp 3) (.tmp 49) rfl (w.heap.size+1+1) _ [.int .i64 (1+r5),.int .i64 (1+r6)] _ HE2.out rfl rfl rfl infoAddr2' (ints2 _ _) ?_
   intro Y2 hbY2 hkY2
   have U2:Hid (Kp wy Y2 (fun i=>i=(w.heap.size+1)∨i=(w.heap.size+1+1))):=U1.out.trans (hkY2.mono (fun i _ e=>.inr e))
   have HE3:Hid (Blk Y2 (w.heap.size+1) [.int .i64 (1+r1),.int .i64 (1+r2),.int .i64 (1+r1+r3),.int .i64 (1+r2+r4)] 34):=hbY1.kp hkY2 (fun e=>by have e':w.heap.size+1=w.heap.size+1+1:=e;omega)
   refine hK.out _ _ U2.out (fun hHeld=>?_)
   clear hK K
   (try simp only[Act.put])
   refine wpAnyH_done (by kernel_rfl) ?_ _
   go_wp2_with fail
   refine bodyPost_ret (results_row_row rfl _ _ (w.heap.size+1) 34 _ (0,0) _ (w.heap.size+1+1) 32 _ (0,0) _ rfl HE3.out Tryz.underlying34 rfl infoArea rfl hbY2 Tryz.underlying32 rfl infoAddr2') rfl ?_
   exact⟨rfl,(kW.out.trans KY.out).trans' U2.out (fun i hi e=>by rcases e with e|e <;> omega)⟩
end Go.Proofs.YtecjfnkakodebaaGreatDoor
namespace Go.Proofs.YtecjfnkakodebaaGreatDoor
open Go.RowKit
theorem small22 (x0 x1 x2 f1 f2 g1 g2 t1 t2:Int) (w:World) (h1:I64 f1) (h2:I64 f2) (h3:I64 g1) (h4:I64 g2) (h5:I64 t1) (h6:I64 t2) :
  Calls Tryz.prog 14 #[.agg #[.int .i64 x0,.int .i64 x1,.int .i64 x2,.int .i64 f1,.int .i64 f2,.int .i64 g1,.int .i64 g2,.int .i64 t1,.int .i64 t2]] w fun e w'=>∃(A:Ar4) (t:Int×Int),e=.returned (.tuple #[.agg #[.int .i64 A.1.1,.int .i64 A.1.2,.int .i64 A.2.1,.int .i64 A.2.2],.agg #[.int .i64 t.1,.int .i64 t.2]])/\Ar4.ok A=true/\(A.2.1<=8/\A.2.2<=8/\A.2.1<=A.1.1+2/\A.2.2<=A.1.2+2)/\(1<=t.1/\t.1<=7/\1<=t.2/\t.2<=7)/\Kp w w' Nul:=by
 have P:∀(c m:Int) (hc:I64 c) (hm:1<=m),∃r,(0<=r/\r<m)/\∀wq,Calls Tryz.prog 28 #[.int .i64 c,.int .i64 m] wq fun e w'=>e=.returned (.int .i64 r)/\Kp wq w' Nul:=fun c m hc hm=>
  ⟨pkf c m,⟨by omega,(pkf_val c m hm).2⟩,fun wq=>(pick22 c m hc hm wq).mono fun e w' q=>⟨q.1,by rw[q.2];exact Kp.refl _ _⟩⟩
 obtain⟨r1,q1,P1⟩:=P f1 6 h1 (by decide)
 obtain⟨r2,q2,P2⟩:=P f2 6 h2 (by decide)
 obtain⟨r3,q3,P3⟩:=P g1 3 h3 (by decide)
 obtain⟨r4,q4,P4⟩:=P g2 3 h4 (by decide)
 obtain⟨r5,q5,P5⟩:=P t1 7 h5 (by decide)
 obtain⟨r6,q6,P6⟩:=P t2 7 h6 (by decide)
 refine(small_core x0 x1 x2 f1 f2 g1 g2 t1 t2 r1 r2 r3 r4 r5 r6 w q1 q2 q3 q4 q5 q6 P1 P2 P3 P4 P5 P6).mono fun e w' q=>?_
 refine⟨((1+r1,1+r2),(1+r1+r3,1+r2+r4)),(1+r5,1+r6),q.1,?_,?_,?_,q.2⟩
 ·rw[ar_ok];simp only;omega
 ·simp only;omega
 ·simp only;omega
theorem shifted22 (c s x y:Int) (w:World) (h1:I64 (c+x)) (h2:I64 (s+y)) :
  Calls Tryz.prog 15 #[.agg #[.int .i64 c,.int .i64 s],.int .i64 x,.int .i64 y] w fun e w'=>e=.returned (.agg #[.int .i64 (c+x),.int .i64 (s+y)])/\Kp w w' Nul:=by
 have e1:wrap64 (c+x)=c+x:=by unfold I64 at h1;unfold wrap64;omega
 have e2:wrap64 (s+y)=s+y:=by unfold I64 at h2;unfold wrap64;omega
 have HAt:Hid (∀x y w,Calls Tryz.prog 18 #[.int .i64 x,.int .i64 y] w fun e w'=>e=.returned (.agg #[.int .i64 x,.int .i64 y])/\Kp w w' Nul):=at22
 obtain⟨W,hW⟩:∃W,(w.alloc (.cells #[.int .i64 c,.int .i64 s] 32)).alloc (.cells #[.int .i64 0,.int .i64 0] 32)=W:=⟨_,rfl⟩
 have HW:Hid ((w.alloc (.cells #[.int .i64 c,.int .i64 s] 32)).alloc (.cells #[.int .i64 0,.int .i64 0] 32)=W):=hW
 have kW:Hid (Kp w W Nul):=by show Kp _ _ _;rw[<- hW];exact((Kp.refl w Nul).alloc _).alloc _
 have HB1:Hid (Blk W (w.heap.size+1) [.int .i64 0,.int .i64 0] 32):=by show Blk _ _ _ _;rw[<- hW];exact blk2
 have HE:Hid (wrap64 (c+x)=c+x/\wrap64 (s+y)=s+y):=⟨e1,e2⟩
 clear hW e1 e2 h1 h2
 go_enter Tryz.func15,Tryz.ntmps15
 go_wp2_with fail
 rw[HW.out,HE.out.1,HE.out.2]
 clear HW
 refine(HAt.out _ _ _).mono ?_
 rintro e w1 ⟨rfl,hk1⟩
 have K1:Hid (Kp w w1 Nul):=kW.out.trans hk1
 have HB1':Hid (Blk w1 (w.heap.size+1) [.int .i64 0,.int .i64 0] 32):=HB1.out.kp hk1 (fun x=>x)
 clear hk1
 go_wp2_with (first|(refine wpList_store_blk rfl 32 (.tmp 6) (.tmp 15) rfl (w.heap.size+1) _ [.int .i64 (c+x),.int .i64 (s+y)] _ HB1'.out rfl rfl rfl infoAddr2' (ints2 _ _) ?_;intro Y hbY hkY)|fail)
 refine bodyPost_ret (results_cell_row rfl _ _ (w.heap.size+1) 32 _ (0,0) _ rfl hbY Tryz.underlying32 rfl infoAddr2') rfl ?_
 exact⟨rfl,K1.out.trans' hkY (fun i hi e=>by have e':i=w.heap.size+1:=e;omega)⟩
end Go.Proofs.YtecjfnkakodebaaGreatDoor
