/- GridPlays: told: a range tells just what is wanted. By wip/gen_prn.py. GridPlays: puts; Equal and Puts of no other grid; Get of any cell. By wip/gen_pro.py. GridPlays: two grids, and the document's: what holds between two steps. -/
import Derived.Test.YtlppcfeakakpfaaGreatDoorQpPrg
import Derived.Test.YtlppcfeakakpfaaGreatDoorQpJg
import Derived.Test.YtlppcfeakakpfaaGreatDoorQpPrl
set_option maxRecDepth 20000
set_option maxHeartbeats 16000000
namespace Go.Proofs.YtlppcfeakakpfaaGreatDoor
open Go.RowKit Go.Maps Go.Sort Go.Lib Go.Shelf
attribute [local go_sem] Oper.semAt_some
theorem eqIn_nil17 (w:World) (d f:Nat) (lb:Array Value):(Op.equalIn (d+1) 54 (.func (.func f) #[] lb) .nilFunc).run Tryz.prog w=.ok false w:=by
 simp [Op.equalIn,run_underlying Tryz.underlying54]
theorem eq_nil17 (f:Nat) (lb:Array Value) (w:World):(binOp .eql 54 (.func (.func f) #[] lb) .nilFunc).run Tryz.prog w=.ok (.bool false) w:=by
 simp only [binOp]
 simp [show Op.equal 54 (.func (.func f) #[] lb) .nilFunc=Op.equalIn (9999+1) 54 (.func (.func f) #[] lb) .nilFunc from rfl,eqIn_nil17 w 9999 f lb]
structure ToI (w:World) (vw:Value) (lv:Int) (j:Nat) (Z:Nat→Prop) (W:World):Prop where
 b0:Blk W w.heap.size [vw] 29
 b1:Blk W (w.heap.size+1) [.int .i64 lv] 3
 b2:Blk W (w.heap.size+2) [.bool false] 4
 b3:Blk W (w.heap.size+3) [.int .i64 (j:Nat)] 3
 z:∀ i,Z i ↔ i=w.heap.size+2∨i=w.heap.size+3
 kp:Kp w W Nul
theorem ToI.far {w:World} {vw:Value} {lv:Int} {j:Nat} {Z S:Nat→Prop} {W V:World} (h:ToI w vw lv j Z W) (k:Kp W V S) (hS:∀ i,S i→w.heap.size+4≤i):ToI w vw lv j Z V:=
 ⟨h.b0.kp k (fun e=>by have:=hS _ e;omega),h.b1.kp k (fun e=>by have:=hS _ e;omega),h.b2.kp k (fun e=>by have:=hS _ e;omega),h.b3.kp k (fun e=>by have:=hS _ e;omega),h.z,h.kp.trans' k (fun i hi e=>by have:=hS _ e;omega)⟩
theorem told_at (g x0 x1:Nat) (m1 m2 m3 m4:Int) (L M Kd:List Cc) (hM:inL m1 m2 m3 m4 L=M) (w:World) (hg:GI 0 w g L) (hL:Ok17 L) (hKs:Strict (Kd.map (·.1))) (hKm:∀ x,x∈Kd ↔ x∈M)
  (hx0:Blk w x0 [.pointer (some ⟨g,0,none⟩)] 25) (hx1:Blk w x1 [.int .i64 m1,.int .i64 m2,.int .i64 m3,.int .i64 m4] 48) (B:Nat) (vw:Value) (ys:List (Cc×Value)) (hp:Pts w B (fun _=>True) vw ys) (hys:ys.map (·.1)=Kd) (lv:Int) :
  Calls Tryz.prog 8 #[.func (.func 47) #[] #[.pointer (some ⟨x0,0,none⟩),.pointer (some ⟨x1,0,none⟩)],vw,.int .i64 lv] w fun e w'=>e=.returned (.bool true)∧Kp w w' Nul:=by
 obtain ⟨pp,cp,hvw,hpp⟩:=hp.slice
 obtain ⟨n,hn⟩:∃ n,ys.length=n:=⟨_,rfl⟩
 have hKn:Kd.length=n:=by rw [← hys,List.length_map,hn]
 rw [hn] at hvw
 have hn4:n≤4096:=by
  have:=nodup_le _ (L.map (·.1)) (strict_nodup hKs) (fun x hx=>by
   obtain ⟨y,hy,rfl⟩:=List.mem_map.1 hx
   exact List.mem_map.2 ⟨y,inL_sub hM ((hKm y).1 hy),rfl⟩)
  rw [List.length_map,List.length_map] at this
  have:=hL.len
  omega
 have HN:Hid (ys.length=n∧Kd.length=n∧n≤4096∧ys.map (·.1)=Kd):=⟨hn,hKn,hn4,hys⟩
 have HG:Hid (∀ wq,Kp w wq Nul→GI 0 wq g L):=fun wq k=>hg.kp k
 have HGA:Hid (∀ wq,Kp w wq Nul→GridIn wq (fun b=>b < w.heap.size) g L):=fun wq k=>hg.low.kp k
 have HPt:Hid (∀ wq,Kp w wq Nul→Pts wq B (fun _=>True) vw ys):=fun wq k=>hp.kp k
 have HVW:Hid (vw=.slice pp n cp):=hvw
 have HPp:Hid (0 < n→∃ b,pp=some ⟨b,0,none⟩):=fun h=>by
  obtain ⟨b,e,_⟩:=hpp (by omega)
  exact ⟨b,e⟩
 have HRow:Hid (∀ (b i:Nat) y,pp=some ⟨b,0,none⟩→ys[i]? = some y→∀ wq,Kp w wq Nul→wq.rangeAt b (i * 23) (ptCells y.1 y.2)):=fun b i y hb hy wq k=>by
  obtain ⟨b',e,_,hr⟩:=hpp (by have:=(List.getElem?_eq_some_iff.1 hy).1;omega)
  rw [hb] at e
  injection e with e
  injection e with e _ _
  subst e
  exact rangeAt_kp (hr i y hy) k (fun x=>x)
 have HOk:Hid (Ok17 L):=hL
 have HKs:Hid (Strict (Kd.map (·.1))):=hKs
 have HKm:Hid (∀ x,x∈Kd ↔ x∈M):=hKm
 have HMM:Hid (inL m1 m2 m3 m4 L=M):=hM
 have HX0:Hid (∀ wq,Kp w wq Nul→Blk wq x0 [.pointer (some ⟨g,0,none⟩)] 25):=fun wq k=>hx0.kp k (fun x=>x)
 have HX1:Hid (∀ wq,Kp w wq Nul→Blk wq x1 [.int .i64 m1,.int .i64 m2,.int .i64 m3,.int .i64 m4] 48):=fun wq k=>hx1.kp k (fun x=>x)
 obtain ⟨w6,hW6⟩:∃ w6,(((w.alloc (.cells #[vw] 29)).alloc (.cells #[.int .i64 lv] 3)).alloc (.cells #[.bool false] 4)).alloc (.cells #[.int .i64 0] 3)=w6:=⟨_,rfl⟩
 have HW6:Hid ((((w.alloc (.cells #[vw] 29)).alloc (.cells #[.int .i64 lv] 3)).alloc (.cells #[.bool false] 4)).alloc (.cells #[.int .i64 0] 3)=w6):=hW6
 have k6:Kp w w6 Nul:=by rw [← hW6];exact ((((Kp.refl w Nul).alloc _).alloc _).alloc _).alloc _
 have hs6:w6.heap.size=w.heap.size+4:=by rw [← hW6,World.size_alloc,World.size_alloc,World.size_alloc,World.size_alloc]
 have HI0:ToI w vw lv 0 (fun i=>i=w.heap.size+2∨i=w.heap.size+3) w6:=by
  refine ⟨?_,?_,?_,?_,fun _=>Iff.rfl,k6⟩
  ·rw [← hW6];exact (((Blk.new w [vw] 29).alloc _).alloc _).alloc _
  ·have:=Blk.new (w.alloc (.cells #[vw] 29)) [.int .i64 lv] 3
   rw [World.size_alloc] at this
   rw [← hW6];exact (this.alloc _).alloc _
  ·have:=Blk.new ((w.alloc (.cells #[vw] 29)).alloc (.cells #[.int .i64 lv] 3)) [.bool false] 4
   rw [World.size_alloc,World.size_alloc] at this
   rw [← hW6];exact this.alloc _
  ·have:=Blk.new (((w.alloc (.cells #[vw] 29)).alloc (.cells #[.int .i64 lv] 3)).alloc (.cells #[.bool false] 4)) [.int .i64 0] 3
   rw [World.size_alloc,World.size_alloc,World.size_alloc] at this
   rw [← hW6];exact this
 have hgA:GridIn w6 (fun b=>b < w.heap.size) g L:=HGA.out w6 k6
 have hnf:=fun wq=>eq_nil17 47 #[.pointer (some ⟨x0,0,none⟩),.pointer (some ⟨x1,0,none⟩)] wq
 clear hp hpp hn hKn hg hW6 hL hKs hKm hM hx0 hx1 hys hn4 hvw
 refine (callsIn_wide (n:=12)).1 ?_
 refine callsIn_of_wp_marks Tryz.func8 rfl trivial ?_ rfl
 simp only [Tryz.ntmps8,List.size_toArray,List.length_cons,List.length_nil,Nat.reduceAdd,Nat.reduceSub,Array.replicate_succ,Array.replicate_zero,List.push_toArray,List.append_toArray,List.nil_append,List.cons_append]
 refine wpIn_wide.2 ?_
 go_wp2_with fail
 rw [HW6.out]
 clear hnf HW6
 generalize hact:Act.mk _ _=a0
 refine wp_range_ow3 (α:=(Cc×Value)×List Nat) (N:=Kd.length) (gf:=47) (lb:=#[.pointer (some ⟨x0,0,none⟩),.pointer (some ⟨x1,0,none⟩)]) (by rw [← hact];rfl) (enters_of Tryz.func47 (by kernel_rfl) rfl) (encs:=encQ) wtQ (fun _=>rfl) (TellQ w6 Kd) ?hT (fun i=>i=w.heap.size+2∨i=w.heap.size+3) ?hseq (fun j Z W=>ToI w vw lv j Z W) ?hZ ?hZl ?hI (fun W=>Blk W (w.heap.size+2) [.bool true] 4∧Kp w W Nul) ?hIx (fun i=>i=w.heap.size+2∨i=w.heap.size+3) HI0 ?hround ?hdone ?hstop
 case hT=>rintro k x Z W ⟨_,_,_,h⟩;exact ⟨fun q=>by have:=(h _ q).1;omega,fun q=>by have:=(h _ q).1;omega⟩
 case hseq=>exact in1_any g x0 x1 _ m1 m2 m3 m4 L M Kd HMM.out w6 _ (HG.out _ k6) hgA HOk.out.gd HOk.out.at' HOk.out.len HKs.out HKm.out (fun i e=>by have e':i < w.heap.size:=e;omega) (fun i e q=>by have q':i < w.heap.size:=q;rcases e with e|e <;> omega) (HX0.out _ k6) (HX1.out _ k6)
 case hZ=>
  intro j Z W h
  exact ⟨fun q=>by have:=(h.z _).1 q;omega,fun q=>by have:=(h.z _).1 q;omega⟩
 case hZl=>
  intro j Z W h
  exact ⟨fun i hi=>by have:=(h.z _).1 hi;have h2:=h.b3.lt;omega,fun i _ hi=>(h.z _).1 hi⟩
 case hI=>
  intro j Z W W' h q
  exact h.far q (fun i e=>by rcases e with e|e <;> omega)
 case hIx=>
  rintro W W' ⟨h1,h2⟩ q
  exact ⟨h1.kp q (fun e=>by rcases e with e|e <;> omega),h2.trans' q (fun i hi e=>by rcases e with e|e <;> omega)⟩
 case hround=>
  subst hact
  rintro j ⟨⟨⟨⟨c,s⟩,a⟩,sl⟩,fp⟩ Z W KK hkN hsW hI ⟨hKk,hown,hnd,hfz⟩ hcont
  have O1:Hid (sl.oneCell'=true):=hown.one
  have hmem:((c,s),a)∈L:=inL_sub HMM.out ((HKm.out _).1 (List.mem_of_getElem? hKk))
  have HGd:Hid (Gd a):=HOk.out.gd _ hmem
  have HIj:Hid (ToI w vw lv j Z W):=hI
  have HOwn:Hid (NdOwn W sl a.t fp∧fp.Nodup):=⟨hown,hnd⟩
  have HFz:Hid (∀ i∈fp,w6.heap.size+2≤i ∧ ¬ Z i):=hfz
  have HSW:Hid (w6.heap.size+2≤W.heap.size∧w6.heap.size=w.heap.size+4):=⟨hsW,hs6⟩
  have hjn:j < n:=by rw [← HN.out.2.1];exact hkN
  obtain ⟨⟨y1,sr⟩,hys⟩:∃ y,ys[j]? = some y:=⟨_,List.getElem?_eq_getElem (by rw [HN.out.1];exact hjn)⟩
  have hy1:y1=((c,s),a):=by
   have:Kd[j]? = some y1:=by rw [← HN.out.2.2.2,List.getElem?_map,hys];rfl
   rw [hKk] at this
   injection this with this
   exact this.symm
  subst hy1
  have HYs:Hid (ys[j]? = some (((c,s),a),sr)):=hys
  have HJn:Hid (j < n):=hjn
  have HJ2:Hid ((0:Int)≤(j:Int)∧(j:Int) < (n:Int)):=⟨by omega,by omega⟩
  have hjb:(j:Int)+1≤9223372036854775807:=by have:=HN.out.2.2.1;omega
  obtain ⟨b,hb⟩:=HPp.out (by omega)
  subst hb
  clear hI hKk hown hnd hfz hmem HX0 HX1 HI0 hgA k6 HG HGA hsW hs6 hys hjn hkN
  simp only [List.zip_toArray,List.zip_cons_cons,List.zip_nil_right,List.foldl_toArray',List.foldl_cons,List.foldl_nil]
  gi_wp2_with (first
   | (refine storeIn_new' rfl 46 (.tmp 9) (.tmp 14) rfl _ _ _ _ (by first|rfl|simp) rfl rfl rfl infoContent (a.one O1.out) ?_)
   | fail)
  refine hcont _ _ (((Kp.refl W Nul).alloc _).alloc _) (fun V hV hloop=>?_)
  have hW2:Kp W ((W.alloc (.cells #[.int .i64 c,.int .i64 s] 36)).alloc (.cells (a.cells sl).toArray 46)) Nul:=((Kp.refl W Nul).alloc _).alloc _
  have hWV:Kp W V (fun i=>i=w6.heap.size+1):=(hW2.mono (fun _ _ q=>q.elim)).trans hV
  have HbA:Hid (∀ wq,Kp V wq Nul→Blk wq W.heap.size [.int .i64 c,.int .i64 s] 36):=fun wq k=>(((Blk.new W [.int .i64 c,.int .i64 s] 36).alloc _).kp hV (fun e=>by have e':W.heap.size=w6.heap.size+1:=e;have:=HSW.out;omega)).kp k (fun x=>x)
  have HbC:Hid (∀ wq,Kp V wq Nul→Blk wq (W.heap.size+1) (a.cells sl) 46):=fun wq k=>by
   have h1:=Blk.new (W.alloc (.cells #[.int .i64 c,.int .i64 s] 36)) (a.cells sl) 46
   rw [World.size_alloc] at h1
   exact (h1.kp hV (fun e=>by have e':W.heap.size+1=w6.heap.size+1:=e;have:=HSW.out;omega)).kp k (fun x=>x)
  have HOwnV:Hid (Own V 0 sl a.t fp):=⟨HOwn.out.1.mono (fun i hi=>hWV.block i (node_lt (HOwn.out.1.node i hi)) (fun e=>by have e':i=w6.heap.size+1:=e;have:=(HFz.out i hi).1;omega)),HOwn.out.2,fun i hi=>⟨Nat.zero_le _,Nat.lt_of_lt_of_le (node_lt (HOwn.out.1.node i hi)) hWV.size⟩⟩
  have HIV:Hid (ToI w vw lv j Z V):=HIj.out.far hWV (fun i e=>by have e':i=w6.heap.size+1:=e;have:=HSW.out;omega)
  have HRw:Hid (∀ wq,Kp V wq Nul→wq.rangeAt b (j * 23) [.int .i64 c,.int .i64 s]∧wq.rangeAt b (j * 23+2) (a.cells sr)):=fun wq k=>pt_parts (HRow.out b j _ rfl HYs.out wq (HIV.out.kp.trans k))
  have HV:Hid (∀ wq,Kp V wq Nul→wq.cell? ⟨w.heap.size+3,0,none⟩=some (.int .i64 (j:Nat))∧wq.cell? ⟨w.heap.size,0,none⟩=some (.slice (some ⟨b,0,none⟩) n cp)):=fun wq k=>by
   have h:=(HIV.out.b0.kp k (fun x=>x)).cell (i:=0) rfl
   rw [HVW.out] at h
   exact ⟨(HIV.out.b3.kp k (fun x=>x)).cell rfl,h⟩
  have HJust:Hid (∀ wq,Kp V wq Nul→Calls Tryz.prog 19 #[.agg (a.cells sl).toArray,.agg (a.cells sr).toArray] wq fun e w'=>e=.returned (.bool true)∧Kp wq w' Nul):=fun wq k=>
   just_at a sl sr (fun _=>True) (fun _=>True) wq ((HOwnV.out.own.isIn (fun _ _=>trivial)).kp k (fun _ _ x=>x)) ((HPt.out wq (HIV.out.kp.trans k)).tree _ (List.mem_of_getElem? HYs.out))
  have HOver:Hid (∀ wq,Kp V wq Nul→Calls Tryz.prog 20 #[.agg (a.t.hd.cells sl).toArray] wq fun e w'=>e=.returned (.tuple #[])∧Kp wq w' (fun i=>i∈fp)):=fun wq k=>over_any a.t.size a.t sl fp wq (Nat.le_refl _) HGd.out.size (HOwnV.out.kp k (fun _ _ x=>x))
  have HFp:Hid (∀ i∈fp,w.heap.size+4+2≤i):=fun i hi=>by have h1:=(HFz.out i hi).1;have h2:=HSW.out.2;omega
  clear hcont hV hW2 hWV hloop
  gi_wp2_with (fail)
  refine regIn_noPanic ?_
  refine regIn_held (fun w':World=>Kp V w' Nul) (by kernel_rfl) (by kernel_rfl) (noPanic_lets (fun a w h=>Or.elim h (fun q=>Exit.noConfusion (And.left q)) (fun q=>Exit.noConfusion (And.left q)))) ((Kp.refl V Nul).drew) (fun hHeld=>?_)
  refine wpH_takes (i:=0) (v:=.int .i64 (j:Nat)) (some 15) rfl rfl (by kernel_rfl) (by kernel_rfl) (by kernel_rfl) (fun _ _ _ h=>h) (Or.inl ⟨by rfl,?_⟩) hHeld ?_
  ·intro w' hSw;have s0:=(HV.out w' hSw).1;clear hSw;go_simp
  simp only [Act.put,List.setIfInBounds_toArray,List.set_cons_zero,List.set_cons_succ]
  refine wpH_takes (i:=1) (v:=.slice (some ⟨b,0,none⟩) n cp) (some 16) rfl rfl (by kernel_rfl) (by kernel_rfl) (by kernel_rfl) (fun _ _ _ h=>h) (Or.inl ⟨by rfl,?_⟩) hHeld ?_
  ·intro w' hSw;have s0:=(HV.out w' hSw).2;clear hSw;go_simp
  simp only [Act.put,List.setIfInBounds_toArray,List.set_cons_zero,List.set_cons_succ]
  refine wpH_takes (i:=2) (v:=.int .i64 (n:Nat)) (some 17) rfl rfl (by kernel_rfl) (by kernel_rfl) (by kernel_rfl) (fun _ _ _ h=>h) (Or.inl ⟨by rfl,?_⟩) hHeld ?_
  ·intro w' hSw;clear hSw;go_simp
  simp only [Act.put,List.setIfInBounds_toArray,List.set_cons_zero,List.set_cons_succ]
  refine wpH_takes (i:=3) (v:=.bool false) (some 18) rfl rfl (by kernel_rfl) (by kernel_rfl) (by kernel_rfl) (fun _ _ _ h=>h) (Or.inl ⟨by rfl,?_⟩) hHeld ?_
  ·intro w' hSw;clear hSw;go_simp;exact HJn.out
  simp only [Act.put,List.setIfInBounds_toArray,List.set_cons_zero,List.set_cons_succ]
  refine wpH_takes (i:=4) (v:=.bool false) (some 19) rfl rfl (by kernel_rfl) (by kernel_rfl) (by kernel_rfl) (fun _ _ _ h=>h) (Or.inl ⟨by rfl,?_⟩) hHeld ?_
  ·intro w' hSw;clear hSw;go_simp
  simp only [Act.put,List.setIfInBounds_toArray,List.set_cons_zero,List.set_cons_succ]
  refine wpH_takes (i:=5) (v:=.agg ([.int .i64 c,.int .i64 s]).toArray) (some 20) rfl rfl (by kernel_rfl) (by kernel_rfl) (by kernel_rfl) (fun _ _ _ h=>h) (Or.inl ⟨by rfl,fun w' hSw=>exec_load_row 36 (.tmp 8) rfl W.heap.size 0 rfl ([.int .i64 c,.int .i64 s]) _ (blk_range (HbA.out w' hSw)) Tryz.underlying36 rfl infoAddr2⟩) hHeld ?_
  simp only [Act.put,List.setIfInBounds_toArray,List.set_cons_zero,List.set_cons_succ]
  refine wpH_takes (i:=6) (v:=.slice (some ⟨b,0,none⟩) n cp) (some 21) rfl rfl (by kernel_rfl) (by kernel_rfl) (by kernel_rfl) (fun _ _ _ h=>h) (Or.inl ⟨by rfl,?_⟩) hHeld ?_
  ·intro w' hSw;have s0:=(HV.out w' hSw).2;clear hSw;go_simp
  simp only [Act.put,List.setIfInBounds_toArray,List.set_cons_zero,List.set_cons_succ]
  refine wpH_takes (i:=7) (v:=.int .i64 (j:Nat)) (some 22) rfl rfl (by kernel_rfl) (by kernel_rfl) (by kernel_rfl) (fun _ _ _ h=>h) (Or.inl ⟨by rfl,?_⟩) hHeld ?_
  ·intro w' hSw;have s0:=(HV.out w' hSw).1;clear hSw;go_simp
  simp only [Act.put,List.setIfInBounds_toArray,List.set_cons_zero,List.set_cons_succ]
  refine wpH_takes (i:=8) (v:=.pointer (some ⟨b,j * 23,none⟩)) (some 23) rfl rfl (by kernel_rfl) (by kernel_rfl) (by kernel_rfl) (fun _ _ _ h=>h) (Or.inl ⟨by rfl,?_⟩) hHeld ?_
  ·intro w' hSw;have s0:=HJ2.out.1;have s1:=HJ2.out.2;clear hSw;go_simp
  simp only [Act.put,List.setIfInBounds_toArray,List.set_cons_zero,List.set_cons_succ]
  refine wpH_takes (i:=9) (v:=.pointer (some ⟨b,j * 23,none⟩)) (some 24) rfl rfl (by kernel_rfl) (by kernel_rfl) (by kernel_rfl) (fun _ _ _ h=>h) (Or.inl ⟨by rfl,?_⟩) hHeld ?_
  ·intro w' hSw;clear hSw;go_simp
  simp only [Act.put,List.setIfInBounds_toArray,List.set_cons_zero,List.set_cons_succ]
  refine wpH_takes (i:=10) (v:=.agg ([.int .i64 c,.int .i64 s]).toArray) (some 25) rfl rfl (by kernel_rfl) (by kernel_rfl) (by kernel_rfl) (fun _ _ _ h=>h) (Or.inl ⟨by rfl,fun w' hSw=>exec_load_row 36 (.tmp 24) rfl b (j * 23) rfl ([.int .i64 c,.int .i64 s]) _ ((HRw.out w' hSw).1) Tryz.underlying36 rfl infoAddr2⟩) hHeld ?_
  simp only [Act.put,List.setIfInBounds_toArray,List.set_cons_zero,List.set_cons_succ]
  refine wpH_takes (i:=11) (v:=.bool false) (some 26) rfl rfl (by kernel_rfl) (by kernel_rfl) (by kernel_rfl) (fun _ _ _ h=>h) (Or.inl ⟨by rfl,?_⟩) hHeld ?_
  ·intro w' hSw;clear hSw;go_simp
  simp only [Act.put,List.setIfInBounds_toArray,List.set_cons_zero,List.set_cons_succ]
  refine wpH_takes (i:=12) (v:=.bool false) (some 27) rfl rfl (by kernel_rfl) (by kernel_rfl) (by kernel_rfl) (fun _ _ _ h=>h) (Or.inl ⟨by rfl,?_⟩) hHeld ?_
  ·intro w' hSw;clear hSw;go_simp
  simp only [Act.put,List.setIfInBounds_toArray,List.set_cons_zero,List.set_cons_succ]
  refine wpH_takes (i:=13) (v:=.bool false) (some 28) rfl rfl (by kernel_rfl) (by kernel_rfl) (by kernel_rfl) (fun _ _ _ h=>h) (Or.inl ⟨by rfl,?_⟩) hHeld ?_
  ·intro w' hSw;clear hSw;go_simp
  simp only [Act.put,List.setIfInBounds_toArray,List.set_cons_zero,List.set_cons_succ]
  refine wpH_takes (i:=14) (v:=.agg (a.cells sl).toArray) (some 29) rfl rfl (by kernel_rfl) (by kernel_rfl) (by kernel_rfl) (fun _ _ _ h=>h) (Or.inl ⟨by rfl,fun w' hSw=>exec_load_content _ rfl rfl (HbC.out w' hSw) rfl⟩) hHeld ?_
  simp only [Act.put,List.setIfInBounds_toArray,List.set_cons_zero,List.set_cons_succ]
  refine wpH_takes (i:=15) (v:=.slice (some ⟨b,0,none⟩) n cp) (some 30) rfl rfl (by kernel_rfl) (by kernel_rfl) (by kernel_rfl) (fun _ _ _ h=>h) (Or.inl ⟨by rfl,?_⟩) hHeld ?_
  ·intro w' hSw;have s0:=(HV.out w' hSw).2;clear hSw;go_simp
  simp only [Act.put,List.setIfInBounds_toArray,List.set_cons_zero,List.set_cons_succ]
  refine wpH_takes (i:=16) (v:=.int .i64 (j:Nat)) (some 31) rfl rfl (by kernel_rfl) (by kernel_rfl) (by kernel_rfl) (fun _ _ _ h=>h) (Or.inl ⟨by rfl,?_⟩) hHeld ?_
  ·intro w' hSw;have s0:=(HV.out w' hSw).1;clear hSw;go_simp
  simp only [Act.put,List.setIfInBounds_toArray,List.set_cons_zero,List.set_cons_succ]
  refine wpH_takes (i:=17) (v:=.pointer (some ⟨b,j * 23,none⟩)) (some 32) rfl rfl (by kernel_rfl) (by kernel_rfl) (by kernel_rfl) (fun _ _ _ h=>h) (Or.inl ⟨by rfl,?_⟩) hHeld ?_
  ·intro w' hSw;have s0:=HJ2.out.1;have s1:=HJ2.out.2;clear hSw;go_simp
  simp only [Act.put,List.setIfInBounds_toArray,List.set_cons_zero,List.set_cons_succ]
  refine wpH_takes (i:=18) (v:=.pointer (some ⟨b,j * 23+2,none⟩)) (some 33) rfl rfl (by kernel_rfl) (by kernel_rfl) (by kernel_rfl) (fun _ _ _ h=>h) (Or.inl ⟨by rfl,?_⟩) hHeld ?_
  ·intro w' hSw;clear hSw;go_simp
  simp only [Act.put,List.setIfInBounds_toArray,List.set_cons_zero,List.set_cons_succ]
  refine wpH_takes (i:=19) (v:=.agg (a.cells sr).toArray) (some 34) rfl rfl (by kernel_rfl) (by kernel_rfl) (by kernel_rfl) (fun _ _ _ h=>h) (Or.inl ⟨by rfl,fun w' hSw=>exec_load_row 46 (.tmp 33) rfl b (j * 23+2) rfl (a.cells sr) _ ((HRw.out w' hSw).2) Tryz.underlying46 rfl infoContent⟩) hHeld ?_
  simp only [Act.put,List.setIfInBounds_toArray,List.set_cons_zero,List.set_cons_succ]
  refine wpH_stepG (i:=20) (by kernel_rfl) rfl (by rfl) (fun K hK=>?_)
  go_simp
  refine (HJust.out _ ((Kp.refl V Nul).drew)).mono ?_
  rintro e v2 ⟨rfl,hk2⟩
  have KV2:Hid (Kp V v2 Nul):=((Kp.refl V Nul).drew).trans hk2
  refine hK.out _ _ KV2.out (fun hHeld=>?_)
  clear hK K hk2
  (try simp only [Act.put,List.setIfInBounds_toArray,List.set_cons_zero,List.set_cons_succ])
  refine wpH_takes (i:=21) (v:=.bool false) (some 36) rfl rfl (by kernel_rfl) (by kernel_rfl) (by kernel_rfl) (fun _ _ _ h=>h) (Or.inl ⟨by rfl,?_⟩) hHeld ?_
  ·intro w' hSw;clear hSw;go_simp
  simp only [Act.put,List.setIfInBounds_toArray,List.set_cons_zero,List.set_cons_succ]
  refine wpH_takes (i:=22) (v:=.bool false) (some 37) rfl rfl (by kernel_rfl) (by kernel_rfl) (by kernel_rfl) (fun _ _ _ h=>h) (Or.inl ⟨by rfl,?_⟩) hHeld ?_
  ·intro w' hSw;clear hSw;go_simp
  simp only [Act.put,List.setIfInBounds_toArray,List.set_cons_zero,List.set_cons_succ]
  refine wpAnyH_done (by kernel_rfl) ?_ _
  refine NoPanic.normal ?_
  have HR6:Hid (v2.rangeAt (W.heap.size+1) 6 (a.t.hd.cells sl)):=by
   obtain ⟨k,⟨vk,vx,vs,vb,vf⟩,t⟩:=a
   exact rangeAt_mid (pre:=[.int .i64 k,.int .i64 vk,.float .f64 vx,.string vs,.bool vb,.int .i64 vf]) (l:=t.hd.cells sl) (post:=[]) (HbC.out v2 KV2.out)
  clear hHeld
  gi_wp2_with (first
   | (refine loadIn_node rfl (.tmp 38) rfl (W.heap.size+1) 6 rfl (a.t.hd.cells sl) HR6.out rfl ?_)
   | fail)
  refine ⟨trivial,CallsIn.inRound _ ((callsIn_wide.2 (HOver.out _ KV2.out)).mono ?_)⟩
  rintro e v3 ⟨rfl,hk3⟩
  have hkV3:Kp V v3 (fun i=>i∈fp):=KV2.out.of_nul.trans hk3
  have HI3:Hid (ToI w vw lv j Z v3):=HIV.out.far hkV3 (fun i e=>by have:=HFp.out i e;omega)
  have HKV3:Hid (Kp V v3 (fun i=>i∈fp)):=hkV3
  have z3:v3.cell? ⟨w.heap.size+3,0,none⟩=some (.int .i64 (j:Nat)):=HI3.out.b3.cell rfl
  have f3:v3.frozen? ⟨w.heap.size+3,0,none⟩=false:=HI3.out.b3.froz 0
  obtain ⟨v4,hv4⟩:∃ v4,v3.setCell ⟨w.heap.size+3,0,none⟩ (.int .i64 ((j:Int)+1))=v4:=⟨_,rfl⟩
  have HV4:Hid (v3.setCell ⟨w.heap.size+3,0,none⟩ (.int .i64 ((j:Int)+1))=v4):=hv4
  have hk4:Kp v3 v4 (fun i=>i=w.heap.size+3):=by rw [← hv4];exact (Kp.refl v3 (fun i=>i=w.heap.size+3)).setCell _ _ (.inr rfl)
  have HI4:Hid (ToI w vw lv (j+1) Z v4):=by
   refine ⟨HI3.out.b0.kp hk4 (by show ¬ w.heap.size=w.heap.size+3;omega),HI3.out.b1.kp hk4 (by show ¬ w.heap.size+1=w.heap.size+3;omega),HI3.out.b2.kp hk4 (by show ¬ w.heap.size+2=w.heap.size+3;omega),?_,HI3.out.z,HI3.out.kp.trans' hk4 (fun i hi e=>by have e':i=w.heap.size+3:=e;omega)⟩
   rw [← hv4]
   exact HI3.out.b3.set 0 _
  have HKV4:Hid (Kp V v4 (fun i=>(Z i∨wtQ ((((c,s),a),sl),fp) i)∨W.heap.size≤i)):=(HKV3.out.mono (fun i _ e=>.inl (.inr e))).trans (hk4.mono (fun i _ e=>.inl (.inl ((HI3.out.z i).2 (.inr e)))))
  have c3:v4.cell? ⟨w.heap.size+3,0,none⟩=some (.int .i64 ((j:Int)+1)):=by rw [← hv4];exact (HI3.out.b3.set 0 _).cell rfl
  have c1:v4.cell? ⟨w.heap.size+1,0,none⟩=some (.int .i64 lv):=HI4.out.b1.cell rfl
  clear hk3 hkV3 hk4 hv4 HR6
  by_cases hlv:(j:Int)+1=lv
  ·have hlv':(((j:Int)+1) == lv)=true:=by rw [hlv];exact beq_self_eq_true _
   have c2:v4.cell? ⟨w.heap.size+2,0,none⟩=some (.bool false):=HI4.out.b2.cell rfl
   have f2:v4.frozen? ⟨w.heap.size+2,0,none⟩=false:=HI4.out.b2.froz 0
   obtain ⟨v5,hv5⟩:∃ v5,v4.setCell ⟨w.heap.size+2,0,none⟩ (.bool true)=v5:=⟨_,rfl⟩
   have HV5:Hid (v4.setCell ⟨w.heap.size+2,0,none⟩ (.bool true)=v5):=hv5
   have hk5:Kp v4 v5 (fun i=>i=w.heap.size+2):=by rw [← hv5];exact (Kp.refl v4 (fun i=>i=w.heap.size+2)).setCell _ _ (.inr rfl)
   have HE:Hid (Kp V v5 (fun i=>(Z i∨wtQ ((((c,s),a),sl),fp) i)∨W.heap.size≤i)∧Blk v5 (w.heap.size+2) [.bool true] 4∧Kp w v5 Nul):=by
    refine ⟨HKV4.out.trans (hk5.mono (fun i _ e=>.inl (.inl ((HI4.out.z i).2 (.inl e))))),?_,HI4.out.kp.trans' hk5 (fun i hi e=>by have e':i=w.heap.size+2:=e;omega)⟩
    rw [← hv5]
    exact HI4.out.b2.set 0 _
   clear hk5 hv5 hlv
   gi_wp2_with (first|(rw [HV4.out])|(rw [HV5.out])|fail)
   first
   | exact .inr ⟨rfl,HE.out⟩
   | exact HE.out
  ·have hlv':(((j:Int)+1) == lv)=false:=by rw [beq_eq_false_iff_ne];exact hlv
   clear hlv
   gi_wp2_with (first|(rw [HV4.out])|fail)
   first
   | exact .inl ⟨rfl,HKV4.out,Z,HI4.out,fun i hi=>.inl hi⟩
   | exact ⟨HKV4.out,Z,HI4.out,fun i hi=>.inl hi⟩
 case hdone=>
  subst hact
  intro D Z W hD hI hdef
  have HDf:Hid (W.heap[D]? = some (.deferred (some []))):=hdef
  have HIe:Hid (ToI w vw lv Kd.length Z W):=hI
  have HDD:Hid (D=w.heap.size+4):=by show _=_;omega
  have y0:W.cell? ⟨w.heap.size,0,none⟩=some (.slice pp n cp):=by
   have h:=hI.b0.cell (i:=0) rfl
   rw [HVW.out] at h
   exact h
  have y3:W.cell? ⟨w.heap.size+3,0,none⟩=some (.int .i64 (n:Nat)):=by
   have h:=hI.b3.cell (i:=0) rfl
   rw [HN.out.2.1] at h
   exact h
  have y2:W.cell? ⟨w.heap.size+2,0,none⟩=some (.bool false):=hI.b2.cell rfl
  have f2:W.frozen? ⟨w.heap.size+2,0,none⟩=false:=hI.b2.froz 0
  clear hI hdef hD HI0 hgA k6
  go_wp2_with fail
  have hX2:(W.setCell ⟨w.heap.size+2,0,none⟩ (.bool true)).heap[D]? = some (.deferred (some [])):=(heap_setCell_other _ _ _ _ (by show D≠w.heap.size+2;have:=HDD.out;omega)).trans HDf.out
  have hB2:Blk (W.setCell ⟨w.heap.size+2,0,none⟩ (.bool true)) (w.heap.size+2) [.bool true] 4:=HIe.out.b2.set 0 (.bool true)
  refine ⟨by simp,.inl ⟨_,_,rfl,run_takeDeferred hX2,?_⟩⟩
  refine ⟨_,results_bool rfl rfl (hB2.kp putObj_self (by show ¬ w.heap.size+2=D;have:=HDD.out;omega)),rfl,?_⟩
  exact putObj_kp (HIe.out.kp.setCell ⟨w.heap.size+2,0,none⟩ (.bool true) (.inl (by show w.heap.size≤w.heap.size+2;omega))) (by have:=HDD.out;omega)
 case hstop=>
  subst hact
  rintro D W hD ⟨hB,hK⟩ hdef
  have HDf:Hid (W.heap[D]? = some (.deferred (some []))):=hdef
  have HB2:Hid (Blk W (w.heap.size+2) [.bool true] 4∧Kp w W Nul):=⟨hB,hK⟩
  have HDD:Hid (D=w.heap.size+4):=by show _=_;omega
  clear hB hK hdef hD HI0 hgA k6
  go_wp2_with fail
  refine ⟨by simp,.inl ⟨_,_,rfl,run_takeDeferred HDf.out,?_⟩⟩
  refine ⟨_,results_bool rfl rfl (HB2.out.1.kp putObj_self (by show ¬ w.heap.size+2=D;have:=HDD.out;omega)),rfl,?_⟩
  exact putObj_kp HB2.out.2 (by have:=HDD.out;omega)
end Go.Proofs.YtlppcfeakakpfaaGreatDoor
namespace Go.Proofs.YtlppcfeakakpfaaGreatDoor
open Go.RowKit Go.Maps Go.Sort Go.Lib Go.Shelf
theorem equal_none (g:Nat) (w:World):Calls Tryz.prog 28 #[.pointer (some ⟨g,0,none⟩),.pointer none] w fun e w'=>e=.returned (.bool false)∧Kp w w' Nul:=by
 go_enter Tryz.func28,Tryz.ntmps28
 go_wp2_with fail
 refine wp_region_noPanic ?_
 refine wp_region_hel (fun w':World=>Kp w w' Nul) (by kernel_rfl) ((Kp.refl _ _).drew) (fun hHeld=>?_)
 refine wpH_takes (i:=0) (v:=.pointer (some ⟨g,0,none⟩)) (some 5) rfl rfl (by kernel_rfl) (by kernel_rfl) (by kernel_rfl) (fun _ _ _ h=>h) (Or.inl ⟨by rfl,?_⟩) hHeld ?_
 ·intro w' hSw;clear hSw;go_simp
 simp only [Act.put,List.setIfInBounds_toArray,List.set_cons_zero,List.set_cons_succ]
 refine wpH_takes (i:=1) (v:=.bool true) (some 6) rfl rfl (by kernel_rfl) (by kernel_rfl) (by kernel_rfl) (fun _ _ _ h=>h) (Or.inl ⟨by rfl,?_⟩) hHeld ?_
 ·intro w' hSw;clear hSw;go_simp
 simp only [Act.put,List.setIfInBounds_toArray,List.set_cons_zero,List.set_cons_succ]
 refine wpH_takes (i:=2) (v:=.bool true) (some 7) rfl rfl (by kernel_rfl) (by kernel_rfl) (by kernel_rfl) (fun _ _ _ h=>h) (Or.inl ⟨by rfl,?_⟩) hHeld ?_
 ·intro w' hSw;clear hSw;go_simp
 simp only [Act.put,List.setIfInBounds_toArray,List.set_cons_zero,List.set_cons_succ]
 refine wpH_takes (i:=3) (v:=.pointer none) (some 8) rfl rfl (by kernel_rfl) (by kernel_rfl) (by kernel_rfl) (fun _ _ _ h=>h) (Or.inl ⟨by rfl,?_⟩) hHeld ?_
 ·intro w' hSw;clear hSw;go_simp
 simp only [Act.put,List.setIfInBounds_toArray,List.set_cons_zero,List.set_cons_succ]
 refine wpH_takes (i:=4) (v:=.bool false) (some 9) rfl rfl (by kernel_rfl) (by kernel_rfl) (by kernel_rfl) (fun _ _ _ h=>h) (Or.inl ⟨by rfl,?_⟩) hHeld ?_
 ·intro w' hSw;clear hSw;go_simp
 simp only [Act.put,List.setIfInBounds_toArray,List.set_cons_zero,List.set_cons_succ]
 refine wpH_takes (i:=5) (v:=.bool false) (some 10) rfl rfl (by kernel_rfl) (by kernel_rfl) (by kernel_rfl) (fun _ _ _ h=>h) (Or.inl ⟨by rfl,?_⟩) hHeld ?_
 ·intro w' hSw;clear hSw;go_simp
 simp only [Act.put,List.setIfInBounds_toArray,List.set_cons_zero,List.set_cons_succ]
 refine wpH_takes (i:=6) (v:=.bool false) (some 11) rfl rfl (by kernel_rfl) (by kernel_rfl) (by kernel_rfl) (fun _ _ _ h=>h) (Or.inl ⟨by rfl,?_⟩) hHeld ?_
 ·intro w' hSw;clear hSw;go_simp
 simp only [Act.put,List.setIfInBounds_toArray,List.set_cons_zero,List.set_cons_succ]
 refine wpH_takes (i:=7) (v:=undef) (some 12) rfl rfl (by kernel_rfl) (by kernel_rfl) (by kernel_rfl) (fun _ _ _ h=>h) (Or.inr ⟨by rfl,rfl⟩) hHeld ?_
 simp only [Act.put,List.setIfInBounds_toArray,List.set_cons_zero,List.set_cons_succ]
 refine wpH_takes (i:=8) (v:=undef) (some 13) rfl rfl (by kernel_rfl) (by kernel_rfl) (by kernel_rfl) (fun _ _ _ h=>h) (Or.inr ⟨by rfl,rfl⟩) hHeld ?_
 simp only [Act.put,List.setIfInBounds_toArray,List.set_cons_zero,List.set_cons_succ]
 refine wpH_takes (i:=9) (v:=undef) (some 14) rfl rfl (by kernel_rfl) (by kernel_rfl) (by kernel_rfl) (fun _ _ _ h=>h) (Or.inr ⟨by rfl,rfl⟩) hHeld ?_
 simp only [Act.put,List.setIfInBounds_toArray,List.set_cons_zero,List.set_cons_succ]
 refine wpH_takes (i:=10) (v:=undef) (some 15) rfl rfl (by kernel_rfl) (by kernel_rfl) (by kernel_rfl) (fun _ _ _ h=>h) (Or.inr ⟨by rfl,rfl⟩) hHeld ?_
 simp only [Act.put,List.setIfInBounds_toArray,List.set_cons_zero,List.set_cons_succ]
 refine wpH_takes (i:=11) (v:=undef) (some 16) rfl rfl (by kernel_rfl) (by kernel_rfl) (by kernel_rfl) (fun _ _ _ h=>h) (Or.inr ⟨by rfl,rfl⟩) hHeld ?_
 simp only [Act.put,List.setIfInBounds_toArray,List.set_cons_zero,List.set_cons_succ]
 refine wpH_takes (i:=12) (v:=undef) (some 17) rfl rfl (by kernel_rfl) (by kernel_rfl) (by kernel_rfl) (fun _ _ _ h=>h) (Or.inr ⟨by rfl,rfl⟩) hHeld ?_
 simp only [Act.put,List.setIfInBounds_toArray,List.set_cons_zero,List.set_cons_succ]
 refine wpH_takes (i:=13) (v:=undef) (some 18) rfl rfl (by kernel_rfl) (by kernel_rfl) (by kernel_rfl) (fun _ _ _ h=>h) (Or.inr ⟨by rfl,rfl⟩) hHeld ?_
 simp only [Act.put,List.setIfInBounds_toArray,List.set_cons_zero,List.set_cons_succ]
 refine wpH_takes (i:=14) (v:=undef) (some 19) rfl rfl (by kernel_rfl) (by kernel_rfl) (by kernel_rfl) (fun _ _ _ h=>h) (Or.inr ⟨by rfl,rfl⟩) hHeld ?_
 simp only [Act.put,List.setIfInBounds_toArray,List.set_cons_zero,List.set_cons_succ]
 refine wpH_takes (i:=15) (v:=undef) (some 20) rfl rfl (by kernel_rfl) (by kernel_rfl) (by kernel_rfl) (fun _ _ _ h=>h) (Or.inr ⟨by rfl,rfl⟩) hHeld ?_
 simp only [Act.put,List.setIfInBounds_toArray,List.set_cons_zero,List.set_cons_succ]
 refine wpH_takes (i:=16) (v:=.bool false) (some 21) rfl rfl (by kernel_rfl) (by kernel_rfl) (by kernel_rfl) (fun _ _ _ h=>h) (Or.inl ⟨by rfl,?_⟩) hHeld ?_
 ·intro w' hSw;clear hSw;go_simp
 simp only [Act.put,List.setIfInBounds_toArray,List.set_cons_zero,List.set_cons_succ]
 refine wpH_takes (i:=17) (v:=.bool false) (some 4) rfl rfl (by kernel_rfl) (by kernel_rfl) (by kernel_rfl) (fun _ _ _ h=>h) (Or.inl ⟨by rfl,?_⟩) hHeld ?_
 ·intro w' hSw;clear hSw;go_simp
 simp only [Act.put,List.setIfInBounds_toArray,List.set_cons_zero,List.set_cons_succ]
 refine wpAnyH_done (by kernel_rfl) ?_ _
 refine NoPanic.normal ?_
 clear hHeld
 go_wp2_with fail
 go_ret
 exact ⟨rfl,(Kp.refl _ _).drew⟩
theorem puts_none (g:Nat) (w:World):Calls Tryz.prog 31 #[.pointer (some ⟨g,0,none⟩),.pointer none] w fun e w'=>e=.returned (.slice none 0 0)∧Kp w w' Nul:=by
 go_enter Tryz.func31,Tryz.ntmps31
 go_wp2_with fail
 go_ret
 exact ⟨rfl,Kp.refl _ _⟩
def Rd17 (L:List Cc) (p:Int×Int) (u:Ct):Prop:=(p,u)∈L∨(u=ct0∧∀ a,(p,a) ∉ L)
theorem get17 (g:Nat) (M:List Cc) (w:World) (hg:GI 0 w g M) (hM:Ok17 M) (c s:Int) (hc:I64 c) (hs:I64 s) :
  ∃ u,Rd17 M (c,s) u∧u.v.x < 18446744073709551616∧u.t.ok∧u.t.size≤1048576∧cpC u=u∧∀ wq,Kp w wq Nul→Calls Tryz.prog 13 #[.pointer (some ⟨g,0,none⟩),.agg #[.int .i64 c,.int .i64 s]] wq fun e w'=>∃ sl' fp,e=.returned (u.val sl')∧Own w' wq.heap.size sl' u.t fp∧Kp wq w' Nul:=by
 obtain ⟨mv,bo⟩:=hg.blk
 obtain ⟨a',sa,bb,hlk,hinA,hax,hao,hasz,hacp,hcase⟩:=look_ct hg hM.gd hc hs bo
 refine ⟨a',?_,hax,hao,hasz,hacp,fun wq k=>get_own g c s mv (a'.val sa) bb a' wq (lk_kp hlk k) (fun wq' k'=>?_)⟩
 ·rcases hcase with ⟨_,h⟩|⟨_,h1,_,h2⟩
  ·exact .inl h
  ·exact .inr ⟨h1,h2⟩
 ·refine (gCopy_at a' sa (fun b=>0≤b) wq' hax hasz hao (hinA.kp (k.trans k') (fun _ _ x=>x))).mono ?_
  rintro e w' ⟨sl',fp,rfl,h1,h2⟩
  rw [hacp] at h1 ⊢
  exact ⟨sl',fp,rfl,h1,Kp.of_below h2⟩
structure PuI (w:World) (B C b n:Nat) (zs:List ((Cc×Value)×List Nat)) (q:Nat) (wr:World):Prop where
 rng:∀ i z,q≤i→zs[i]? = some z→wr.rangeAt b (i * 23) (ptCells z.1.1 z.1.2)
 own:∀ i z,q≤i→zs[i]? = some z→Own wr 0 z.1.2 z.1.1.2.t z.2
 the:wr.there b 0 (n * 23)
 kp:Kp w wr (fun i=>B≤i∧i < C)
theorem dis_at {zs:List ((Cc×Value)×List Nat)} (h:zs.Pairwise fun x y=>∀ i∈x.2,i ∉ y.2) {q i:Nat} {x y:(Cc×Value)×List Nat} (hq:zs[q]? = some x) (hi:zs[i]? = some y) (hlt:q < i):∀ k∈x.2,k ∉ y.2:=by
 obtain ⟨h1,rfl⟩:=List.getElem?_eq_some_iff.1 hq
 obtain ⟨h2,rfl⟩:=List.getElem?_eq_some_iff.1 hi
 exact List.pairwise_iff_getElem.1 h q i h1 h2 hlt
theorem zput_ones:(ptCells ((0,0),ct0) (.slice none 0 0)).toArray.all (·.oneCell')=true:=all_oneCell_toArray (pt_one _ rfl)
theorem infoPutZ:(Tryz.prog.info? 84).map (·.size)=some (ptCells ((0,0),ct0) (.slice none 0 0)).toArray.size:=by kernel_rfl
theorem puts17_at (B C:Nat) (v:Value) (zs:List ((Cc×Value)×List Nat)) (v':Value) (ys:List (Cc×Value)) (w:World) (hp:Pts w B (fun _=>True) v (zs.map (·.1))) (ho:PtO w B v zs) (hC:∀ z∈zs,∀ i∈z.2,i < C) (hvC:∀ i,v.ownBlock=some i→i < C)
  (hw:Pts w C (fun i=>i < B) v' ys) (hK:zs.map (·.1.1)=ys.map (·.1)) (hsz:∀ z∈zs,z.1.1.2.t.size≤1048576) (hn4:zs.length≤8192) :
  Calls Tryz.prog 30 #[v,v'] w fun e w'=>e=.returned (.bool true)∧Kp w w' (fun i=>B≤i∧i < C):=by
 obtain ⟨n,hn⟩:∃ n,zs.length=n:=⟨_,rfl⟩
 have hyn:ys.length=n:=by rw [← hn];have:=congrArg List.length hK;simpa using this.symm
 obtain ⟨p,cp,rfl,hpp⟩:=hp.slice
 obtain ⟨p',cp',rfl,hpp'⟩:=hw.slice
 have hlm:(zs.map (·.1)).length=n:=by rw [List.length_map,hn]
 rw [hlm] at hpp hp ho hvC ⊢
 rw [hyn] at hpp' hw ⊢
 have HN:Hid (zs.length=n∧ys.length=n∧n≤8192∧zs.map (·.1.1)=ys.map (·.1)):=⟨hn,hyn,by omega,hK⟩
 have HP:Hid (0 < n→∃ b b',p=some ⟨b,0,none⟩∧p'=some ⟨b',0,none⟩∧B≤b∧b < C∧(∀ z∈zs,b ∉ z.2)∧PuI w B C b n zs 0 w∧∀ i y,ys[i]? = some y→∀ wq,Kp w wq (fun i=>B≤i∧i < C)→wq.rangeAt b' (i * 23) (ptCells y.1 y.2)):=fun h0=>by
  obtain ⟨b,e1,hB,hr⟩:=hpp h0
  obtain ⟨b',e2,hC',hr'⟩:=hpp' h0
  subst e1 e2
  refine ⟨b,b',rfl,rfl,hB,hvC b rfl,fun z hz q=>ho.off z hz b q rfl,⟨fun i z _ hz=>?_,fun i z _ hz=>(ho.own z (List.mem_of_getElem? hz)).le (Nat.zero_le _),?_,Kp.refl _ _⟩,fun i y hy wq k=>rangeAt_kp (hr' i y hy) k (fun e=>by have:=e.2;omega)⟩
  ·exact hr i z.1 (by rw [List.getElem?_map,hz];rfl)
  ·rcases hp.row.2 with ⟨e,_⟩|⟨g,c,cur,e,_,h3,h4,_,h6,_⟩
   ·cases e
   ·injection e with e _ _
    injection e with e
    injection e with e _ _
    subst e
    refine there_of_block h3 0 (n * 23) ?_
    rw [h6,Nat.zero_add]
    rw [hlm] at h4
    exact Nat.mul_le_mul_right 23 h4
 have HT:Hid (∀ y∈ys,∀ wq,Kp w wq (fun i=>B≤i∧i < C)→NdIn wq (fun i=>i < B) y.2 y.1.2.t):=fun y hy wq k=>(hw.tree y hy).kp k (fun i hi e=>by have:=e.1;have hi':i < B:=hi;omega)
 have HD:Hid (zs.Pairwise fun x y=>∀ i∈x.2,i ∉ y.2):=ho.dis
 have HZ:Hid (∀ z∈zs,z.1.1.2.t.size≤1048576∧∀ i∈z.2,B≤i∧i < C):=fun z hz=>⟨hsz z hz,fun i hi=>⟨((ho.own z hz).new i hi).1,hC z hz i hi⟩⟩
 clear hp hpp ho hC hvC hw hpp' hK hsz hn4 hn hyn hlm
 have hnn:((n:Int) == (n:Int))=true:=beq_self_eq_true _
 go_enter Tryz.func30,Tryz.ntmps30
 go_wp2_with fail
 go_loopw [5] (fun i wr=>∃ q:Nat,q≤n∧i=.int .i64 q∧(∀ b,p=some ⟨b,0,none⟩→0 < n→PuI w B C b n zs q wr)∧Kp w wr (fun i=>B≤i∧i < C)) (fun i _=>n - (RowKit.intOf i).toNat)
 case atStart=>
  refine ⟨0,Nat.zero_le _,rfl,fun b hb h0=>?_,Kp.refl _ _⟩
  obtain ⟨b2,b3,e1,_,_,_,_,hI,_⟩:=HP.out h0
  rw [hb] at e1
  injection e1 with e1
  injection e1 with e1 _ _
  subst e1
  exact hI
 case round=>
  obtain ⟨q,hq,rfl,hI,hkr⟩:=hrel
  by_cases hlt:q < n
  ·obtain ⟨b,b',rfl,rfl,hB,hbC,hoff,_,hwr⟩:=HP.out (by omega)
   have HI:Hid (PuI w B C b n zs q wr):=hI b rfl (by omega)
   have hqz:q < zs.length:=by rw [HN.out.1];exact hlt
   have hqy:q < ys.length:=by rw [HN.out.2.1];exact hlt
   obtain ⟨⟨⟨⟨⟨c,s⟩,a⟩,sl⟩,fp⟩,hz⟩:∃ z,zs[q]? = some z:=⟨_,List.getElem?_eq_getElem hqz⟩
   obtain ⟨⟨y1,sr⟩,hy⟩:∃ y,ys[q]? = some y:=⟨_,List.getElem?_eq_getElem hqy⟩
   have hy1:y1=((c,s),a):=by
    have h1:(zs.map (·.1.1))[q]? = some ((c,s),a):=by rw [List.getElem?_map,hz];rfl
    rw [HN.out.2.2.2,List.getElem?_map,hy] at h1
    exact Option.some.inj h1
   subst hy1
   have HKr:Hid (Kp w wr (fun i=>B≤i∧i < C)):=hkr
   have HZq:Hid (zs[q]? = some ((((c,s),a),sl),fp)):=hz
   have HOw:Hid (Own wr 0 sl a.t fp):=HI.out.own q _ (Nat.le_refl _) hz
   have HJ2:Hid ((0:Int)≤(q:Int)∧(q:Int) < (n:Int)):=⟨by omega,by omega⟩
   have HRl:Hid (∀ wq,Kp wr wq Nul→wq.rangeAt b (q * 23) [.int .i64 c,.int .i64 s]∧wq.rangeAt b (q * 23+2) (a.cells sl)):=fun wq k=>pt_parts (rangeAt_kp (HI.out.rng q _ (Nat.le_refl _) hz) k (fun x=>x))
   have HRw:Hid (∀ wq,Kp wr wq Nul→wq.rangeAt b' (q * 23) [.int .i64 c,.int .i64 s]∧wq.rangeAt b' (q * 23+2) (a.cells sr)):=fun wq k=>pt_parts (hwr q _ hy wq (hkr.trans k.of_nul))
   have HJust:Hid (∀ wq,Kp wr wq Nul→Calls Tryz.prog 19 #[.agg (a.cells sl).toArray,.agg (a.cells sr).toArray] wq fun e w'=>e=.returned (.bool true)∧Kp wq w' Nul):=fun wq k=>
    just_at a sl sr (fun _=>True) (fun i=>i < B) wq ((HOw.out.own.isIn (fun _ _=>trivial)).kp k (fun _ _ x=>x)) (HT.out _ (List.mem_of_getElem? hy) wq (hkr.trans k.of_nul))
   have HOver:Hid (∀ wq,Kp wr wq Nul→Calls Tryz.prog 20 #[.agg (a.t.hd.cells sl).toArray] wq fun e w'=>e=.returned (.tuple #[])∧Kp wq w' (fun i=>i∈fp)):=fun wq k=>over_any a.t.size a.t sl fp wq (Nat.le_refl _) (HZ.out _ (List.mem_of_getElem? hz)).1 (HOw.out.kp k (fun _ _ x=>x))
   have HFp:Hid ((∀ i∈fp,B≤i∧i < C)∧b ∉ fp∧B≤b∧b < C):=⟨(HZ.out _ (List.mem_of_getElem? hz)).2,hoff _ (List.mem_of_getElem? hz),hB,hbC⟩
   have hqn:(q:Int) < (n:Int):=by omega
   have hq0:(0:Int)≤(q:Int):=by omega
   have hqb:(q:Int)+1≤9223372036854775807:=by have:=HN.out.2.2.1;omega
   have HOff:Hid (∀ z∈zs,b ∉ z.2):=hoff
   clear hI hkr hqz hqy hz hy hB hbC hoff hwr
   go_upto_region 6 with fail
   refine wp_region_noPanic ?_
   refine wp_region_hel (fun w':World=>Kp wr w' Nul) (by kernel_rfl) ((Kp.refl _ _).drew) (fun hHeld=>?_)
   refine wpH_takes (i:=0) (v:=.slice (some ⟨b,0,none⟩) n cp) (some 18) rfl rfl (by kernel_rfl) (by kernel_rfl) (by kernel_rfl) (fun _ _ _ h=>h) (Or.inl ⟨by rfl,?_⟩) hHeld ?_
   ·intro w' hSw;clear hSw;go_simp
   simp only [Act.put,List.setIfInBounds_toArray,List.set_cons_zero,List.set_cons_succ]
   refine wpH_takes (i:=1) (v:=.int .i64 (q:Nat)) (some 19) rfl rfl (by kernel_rfl) (by kernel_rfl) (by kernel_rfl) (fun _ _ _ h=>h) (Or.inl ⟨by rfl,?_⟩) hHeld ?_
   ·intro w' hSw;clear hSw;go_simp
   simp only [Act.put,List.setIfInBounds_toArray,List.set_cons_zero,List.set_cons_succ]
   refine wpH_takes (i:=2) (v:=.pointer (some ⟨b,q * 23,none⟩)) (some 20) rfl rfl (by kernel_rfl) (by kernel_rfl) (by kernel_rfl) (fun _ _ _ h=>h) (Or.inl ⟨by rfl,?_⟩) hHeld ?_
   ·intro w' hSw;have s0:=HJ2.out.1;have s1:=HJ2.out.2;clear hSw;go_simp
   simp only [Act.put,List.setIfInBounds_toArray,List.set_cons_zero,List.set_cons_succ]
   refine wpH_takes (i:=3) (v:=.pointer (some ⟨b,q * 23+2,none⟩)) (some 21) rfl rfl (by kernel_rfl) (by kernel_rfl) (by kernel_rfl) (fun _ _ _ h=>h) (Or.inl ⟨by rfl,?_⟩) hHeld ?_
   ·intro w' hSw;clear hSw;go_simp
   simp only [Act.put,List.setIfInBounds_toArray,List.set_cons_zero,List.set_cons_succ]
   refine wpH_takes (i:=4) (v:=.agg (a.cells sl).toArray) (some 22) rfl rfl (by kernel_rfl) (by kernel_rfl) (by kernel_rfl) (fun _ _ _ h=>h) (Or.inl ⟨by rfl,fun w' hSw=>exec_load_row 46 (.tmp 21) rfl b (q * 23+2) rfl (a.cells sl) _ ((HRl.out w' hSw).2) Tryz.underlying46 rfl infoContent⟩) hHeld ?_
   simp only [Act.put,List.setIfInBounds_toArray,List.set_cons_zero,List.set_cons_succ]
   refine wpH_takes (i:=5) (v:=(.slice (some ⟨b',0,none⟩) n cp')) (some 23) rfl rfl (by kernel_rfl) (by kernel_rfl) (by kernel_rfl) (fun _ _ _ h=>h) (Or.inl ⟨by rfl,?_⟩) hHeld ?_
   ·intro w' hSw;clear hSw;go_simp
   simp only [Act.put,List.setIfInBounds_toArray,List.set_cons_zero,List.set_cons_succ]
   refine wpH_takes (i:=6) (v:=.int .i64 (q:Nat)) (some 24) rfl rfl (by kernel_rfl) (by kernel_rfl) (by kernel_rfl) (fun _ _ _ h=>h) (Or.inl ⟨by rfl,?_⟩) hHeld ?_
   ·intro w' hSw;clear hSw;go_simp
   simp only [Act.put,List.setIfInBounds_toArray,List.set_cons_zero,List.set_cons_succ]
   refine wpH_takes (i:=7) (v:=(.pointer (some ⟨b',q * 23,none⟩))) (some 25) rfl rfl (by kernel_rfl) (by kernel_rfl) (by kernel_rfl) (fun _ _ _ h=>h) (Or.inl ⟨by rfl,?_⟩) hHeld ?_
   ·intro w' hSw;have s0:=HJ2.out.1;have s1:=HJ2.out.2;clear hSw;go_simp
   simp only [Act.put,List.setIfInBounds_toArray,List.set_cons_zero,List.set_cons_succ]
   refine wpH_takes (i:=8) (v:=(.pointer (some ⟨b',q * 23+2,none⟩))) (some 26) rfl rfl (by kernel_rfl) (by kernel_rfl) (by kernel_rfl) (fun _ _ _ h=>h) (Or.inl ⟨by rfl,?_⟩) hHeld ?_
   ·intro w' hSw;clear hSw;go_simp
   simp only [Act.put,List.setIfInBounds_toArray,List.set_cons_zero,List.set_cons_succ]
   refine wpH_takes (i:=9) (v:=.agg (a.cells sr).toArray) (some 27) rfl rfl (by kernel_rfl) (by kernel_rfl) (by kernel_rfl) (fun _ _ _ h=>h) (Or.inl ⟨by rfl,fun w' hSw=>exec_load_row 46 (.tmp 26) rfl b' (q * 23+2) rfl (a.cells sr) _ ((HRw.out w' hSw).2) Tryz.underlying46 rfl infoContent⟩) hHeld ?_
   simp only [Act.put,List.setIfInBounds_toArray,List.set_cons_zero,List.set_cons_succ]
   refine wpH_step (i:=10) (by kernel_rfl) rfl rfl (fun K hK=>?_)
   go_simp
   refine (HJust.out _ ((Kp.refl wr Nul).drew)).mono ?_
   rintro e v2 ⟨rfl,hk2⟩
   have KV2:Hid (Kp wr v2 Nul):=((Kp.refl wr Nul).drew).trans hk2
   refine hK.out _ _ KV2.out (fun hHeld=>?_)
   clear hK K hk2
   (try simp only [Act.put,List.setIfInBounds_toArray,List.set_cons_zero,List.set_cons_succ])
   refine wpH_takes (i:=11) (v:=.bool true) (some 6) rfl rfl (by kernel_rfl) (by kernel_rfl) (by kernel_rfl) (fun _ _ _ h=>h) (Or.inl ⟨by rfl,?_⟩) hHeld ?_
   ·intro w' hSw;clear hSw;go_simp
   simp only [Act.put,List.setIfInBounds_toArray,List.set_cons_zero,List.set_cons_succ]
   refine wpAnyH_done (by kernel_rfl) ?_ _
   refine NoPanic.normal ?_
   clear hHeld
   go_upto_region 7 with fail
   refine wp_region_noPanic ?_
   refine wp_region_hel (fun w':World=>Kp v2 w' Nul) (by kernel_rfl) ((Kp.refl _ _).drew) (fun hHeld=>?_)
   refine wpH_takes (i:=0) (v:=.bool true) (some 29) rfl rfl (by kernel_rfl) (by kernel_rfl) (by kernel_rfl) (fun _ _ _ h=>h) (Or.inl ⟨by rfl,?_⟩) hHeld ?_
   ·intro w' hSw;clear hSw;go_simp
   simp only [Act.put,List.setIfInBounds_toArray,List.set_cons_zero,List.set_cons_succ]
   refine wpH_takes (i:=1) (v:=.bool false) (some 30) rfl rfl (by kernel_rfl) (by kernel_rfl) (by kernel_rfl) (fun _ _ _ h=>h) (Or.inl ⟨by rfl,?_⟩) hHeld ?_
   ·intro w' hSw;clear hSw;go_simp
   simp only [Act.put,List.setIfInBounds_toArray,List.set_cons_zero,List.set_cons_succ]
   refine wpH_takes (i:=2) (v:=.bool false) (some 31) rfl rfl (by kernel_rfl) (by kernel_rfl) (by kernel_rfl) (fun _ _ _ h=>h) (Or.inl ⟨by rfl,?_⟩) hHeld ?_
   ·intro w' hSw;clear hSw;go_simp
   simp only [Act.put,List.setIfInBounds_toArray,List.set_cons_zero,List.set_cons_succ]
   refine wpH_takes (i:=3) (v:=.slice (some ⟨b,0,none⟩) n cp) (some 32) rfl rfl (by kernel_rfl) (by kernel_rfl) (by kernel_rfl) (fun _ _ _ h=>h) (Or.inl ⟨by rfl,?_⟩) hHeld ?_
   ·intro w' hSw;clear hSw;go_simp
   simp only [Act.put,List.setIfInBounds_toArray,List.set_cons_zero,List.set_cons_succ]
   refine wpH_takes (i:=4) (v:=.int .i64 (q:Nat)) (some 33) rfl rfl (by kernel_rfl) (by kernel_rfl) (by kernel_rfl) (fun _ _ _ h=>h) (Or.inl ⟨by rfl,?_⟩) hHeld ?_
   ·intro w' hSw;clear hSw;go_simp
   simp only [Act.put,List.setIfInBounds_toArray,List.set_cons_zero,List.set_cons_succ]
   refine wpH_takes (i:=5) (v:=.pointer (some ⟨b,q * 23,none⟩)) (some 34) rfl rfl (by kernel_rfl) (by kernel_rfl) (by kernel_rfl) (fun _ _ _ h=>h) (Or.inl ⟨by rfl,?_⟩) hHeld ?_
   ·intro w' hSw;have s0:=HJ2.out.1;have s1:=HJ2.out.2;clear hSw;go_simp
   simp only [Act.put,List.setIfInBounds_toArray,List.set_cons_zero,List.set_cons_succ]
   refine wpH_takes (i:=6) (v:=.pointer (some ⟨b,q * 23,none⟩)) (some 35) rfl rfl (by kernel_rfl) (by kernel_rfl) (by kernel_rfl) (fun _ _ _ h=>h) (Or.inl ⟨by rfl,?_⟩) hHeld ?_
   ·intro w' hSw;clear hSw;go_simp
   simp only [Act.put,List.setIfInBounds_toArray,List.set_cons_zero,List.set_cons_succ]
   refine wpH_takes (i:=7) (v:=.agg ([.int .i64 c,.int .i64 s]).toArray) (some 36) rfl rfl (by kernel_rfl) (by kernel_rfl) (by kernel_rfl) (fun _ _ _ h=>h) (Or.inl ⟨by rfl,fun w' hSw=>exec_load_row 36 (.tmp 35) rfl b (q * 23) rfl ([.int .i64 c,.int .i64 s]) _ ((HRl.out w' (KV2.out.trans hSw)).1) Tryz.underlying36 rfl infoAddr2⟩) hHeld ?_
   simp only [Act.put,List.setIfInBounds_toArray,List.set_cons_zero,List.set_cons_succ]
   refine wpH_takes (i:=8) (v:=(.slice (some ⟨b',0,none⟩) n cp')) (some 37) rfl rfl (by kernel_rfl) (by kernel_rfl) (by kernel_rfl) (fun _ _ _ h=>h) (Or.inl ⟨by rfl,?_⟩) hHeld ?_
   ·intro w' hSw;clear hSw;go_simp
   simp only [Act.put,List.setIfInBounds_toArray,List.set_cons_zero,List.set_cons_succ]
   refine wpH_takes (i:=9) (v:=.int .i64 (q:Nat)) (some 38) rfl rfl (by kernel_rfl) (by kernel_rfl) (by kernel_rfl) (fun _ _ _ h=>h) (Or.inl ⟨by rfl,?_⟩) hHeld ?_
   ·intro w' hSw;clear hSw;go_simp
   simp only [Act.put,List.setIfInBounds_toArray,List.set_cons_zero,List.set_cons_succ]
   refine wpH_takes (i:=10) (v:=(.pointer (some ⟨b',q * 23,none⟩))) (some 39) rfl rfl (by kernel_rfl) (by kernel_rfl) (by kernel_rfl) (fun _ _ _ h=>h) (Or.inl ⟨by rfl,?_⟩) hHeld ?_
   ·intro w' hSw;have s0:=HJ2.out.1;have s1:=HJ2.out.2;clear hSw;go_simp
   simp only [Act.put,List.setIfInBounds_toArray,List.set_cons_zero,List.set_cons_succ]
   refine wpH_takes (i:=11) (v:=(.pointer (some ⟨b',q * 23,none⟩))) (some 40) rfl rfl (by kernel_rfl) (by kernel_rfl) (by kernel_rfl) (fun _ _ _ h=>h) (Or.inl ⟨by rfl,?_⟩) hHeld ?_
   ·intro w' hSw;clear hSw;go_simp
   simp only [Act.put,List.setIfInBounds_toArray,List.set_cons_zero,List.set_cons_succ]
   refine wpH_takes (i:=12) (v:=.agg ([.int .i64 c,.int .i64 s]).toArray) (some 41) rfl rfl (by kernel_rfl) (by kernel_rfl) (by kernel_rfl) (fun _ _ _ h=>h) (Or.inl ⟨by rfl,fun w' hSw=>exec_load_row 36 (.tmp 40) rfl b' (q * 23) rfl ([.int .i64 c,.int .i64 s]) _ ((HRw.out w' (KV2.out.trans hSw)).1) Tryz.underlying36 rfl infoAddr2⟩) hHeld ?_
   simp only [Act.put,List.setIfInBounds_toArray,List.set_cons_zero,List.set_cons_succ]
   refine wpH_takes (i:=13) (v:=.bool false) (some 42) rfl rfl (by kernel_rfl) (by kernel_rfl) (by kernel_rfl) (fun _ _ _ h=>h) (Or.inl ⟨by rfl,?_⟩) hHeld ?_
   ·intro w' hSw;clear hSw;go_simp
   simp only [Act.put,List.setIfInBounds_toArray,List.set_cons_zero,List.set_cons_succ]
   refine wpH_takes (i:=14) (v:=.bool false) (some 43) rfl rfl (by kernel_rfl) (by kernel_rfl) (by kernel_rfl) (fun _ _ _ h=>h) (Or.inl ⟨by rfl,?_⟩) hHeld ?_
   ·intro w' hSw;clear hSw;go_simp
   simp only [Act.put,List.setIfInBounds_toArray,List.set_cons_zero,List.set_cons_succ]
   refine wpAnyH_done (by kernel_rfl) ?_ _
   refine NoPanic.normal ?_
   clear hHeld
   have KV3:Hid (Kp wr v2.drew Nul):=KV2.out.drew
   obtain ⟨v3,hv3⟩:∃ v3,v2.drew=v3:=⟨_,rfl⟩
   rw [hv3] at KV3 ⊢
   have HR6:Hid (v3.rangeAt b (q * 23+2+6) (a.t.hd.cells sl)):=by
    have h:=(HRl.out v3 KV3.out).2
    obtain ⟨k,⟨vk,vx,vs,vb,vf⟩,t⟩:=a
    intro j u hj
    have h1:=h (6+j) u (by rw [Nat.add_comm 6 j];exact hj)
    rw [← Nat.add_assoc] at h1
    exact h1
   clear hv3 KV2 HJust HRw
   go_wp2_with (first
    | (refine wpList_load_mid rfl 44 (.tmp 48) rfl b (q * 23+2+6) rfl (a.t.hd.cells sl) _ HR6.out Tryz.underlying44 rfl infoNode ?_)
    | fail)
   refine (HOver.out _ KV3.out).mono ?_
   rintro e v4 ⟨rfl,hk4⟩
   have hk4':Kp wr v4 (fun i=>i∈fp):=KV3.out.of_nul.trans hk4
   have HTh:Hid (v4.there b (q * 23) 23):=by
    have h:=there_kp HI.out.the hk4' HFp.out.2.1 (rangeAt_lt (HI.out.rng q _ (Nat.le_refl _) HZq.out))
    intro j hj
    have:=h (q * 23+j) (by omega)
    rw [Nat.zero_add] at this
    exact this
   obtain ⟨v5,hv5⟩:∃ v5,v4.setCells b (q * 23) (ptCells ((0,0),ct0) (.slice none 0 0)).toArray.toList=v5:=⟨_,rfl⟩
   have HV5:Hid (v4.setCells b (q * 23) (ptCells ((0,0),ct0) (.slice none 0 0)).toArray.toList=v5):=hv5
   have hk5:Kp v4 v5 (fun i=>i=b):=hv5 ▸ setCells_kp (fun i=>i=b) rfl _ _ _
   have HI5:Hid (PuI w B C b n zs (q+1) v5∧Kp w v5 (fun i=>B≤i∧i < C)):=by
    have hk:Kp w v5 (fun i=>B≤i∧i < C):=(HKr.out.trans (hk4'.mono (fun i _ e=>HFp.out.1 i e))).trans (hk5.mono (fun i _ e=>by have e':i=b:=e;subst e';exact HFp.out.2.2))
    refine ⟨⟨fun i z hi hz=>?_,fun i z hi hz=>?_,?_,hk⟩,hk⟩
    ·have h1:=rangeAt_kp (HI.out.rng i z (by omega) hz) hk4' HFp.out.2.1
     rw [← hv5]
     exact World.rangeAt_setCells_apart h1 _ _ _ (.inr (by rw [pt_len];right;show q * 23+23≤i * 23;omega))
    ·have h1:=(HI.out.own i z (by omega) hz).kp hk4' (fun k hk q'=>dis_at HD.out HZq.out hz (by omega) k q' hk)
     exact h1.kp hk5 (fun k hk e=>by have e':k=b:=e;subst e';exact HOff.out z (List.mem_of_getElem? hz) hk)
    ·have h1:=there_kp HI.out.the hk4' HFp.out.2.1 (rangeAt_lt (HI.out.rng q _ (Nat.le_refl _) HZq.out))
     rw [← hv5]
     exact World.there_setCells h1 _ _ _
   clear hk4 hk4' hk5 hv5 HR6
   go_wp2_with (first
    | (refine wpList_store_mid rfl 84 (.tmp 54) (.tmp 53) rfl b (q * 23) (ptCells ((0,0),ct0) (.slice none 0 0)).toArray rfl rfl HTh.out infoPutZ zput_ones ?_;rw [HV5.out])
    | fail)
   go_roundw
   case rel=>exact ⟨q+1,by omega,by go_num,fun b2 hb2 _=>by injection hb2 with hb2;injection hb2 with hb2 _ _;subst hb2;exact HI5.out.1,HI5.out.2⟩
   case measure=>simp only [RowKit.intOf];omega
  ·have hqe:q=n:=by omega
   subst hqe
   have hqn:¬ ((q:Int) < (q:Int)):=by omega
   have HE:Hid (Kp w wr (fun i=>B≤i∧i < C)):=hkr
   clear hI hkr
   go_wp2_with fail
   go_ret
   exact ⟨rfl,HE.out⟩
def upd {α:Type} (f:Nat→α) (k:Nat) (x:α):Nat→α:=fun j=>if j=k then x else f j
theorem upd_same {α:Type} (f:Nat→α) (k:Nat) (x:α):upd f k x k=x:=if_pos rfl
theorem upd_other {α:Type} (f:Nat→α) {k j:Nat} (x:α) (h:j≠k):upd f k x j=f j:=if_neg h
def Plain (cs:Array Value):Prop:=∀ (i:Nat) (v:Value),cs[i]? = some v→(∀ k x,v≠Value.int k x)∧∀ m,v≠Value.map m
theorem NdIn.off {w w':World} {F:Nat→Prop} {sl:Value} {t:Nd} {b:Nat} {cs:Array Value} {ty:TypeId} (h:NdIn w F sl t) (k:Kp w w' (fun i=>i=b)) (hb:w.heap[b]? = some (.cells cs ty (0,0))) (hp:Plain cs):NdIn w' F sl t:=
 h.monoC fun i hi hc=>by
  obtain ⟨o,q,x,hc⟩:=hc
  refine ⟨k.block i (cell_lt hc) (fun e=>?_),hi⟩
  have e':i=b:=e
  subst e'
  simp only [World.cell?,hb] at hc
  exact (hp o _ hc).1 q x rfl
theorem GridIn.off {w w':World} {F:Nat→Prop} {g b:Nat} {L:List Cc} {cs:Array Value} {ty:TypeId} (h:GridIn w F g L) (k:Kp w w' (fun i=>i=b)) (hb:w.heap[b]? = some (.cells cs ty (0,0))) (hp:Plain cs):GridIn w' F g L:=by
 have hne:∀ (i:Nat) (mv:Option Nat),w.heap[i]? = some (.cells #[.map mv] 68 (0,0)) → ¬ i=b:=fun i mv hi e=>by
  subst e
  rw [hb] at hi
  injection hi with hi
  injection hi with h1 _ _
  subst h1
  exact (hp 0 _ rfl).2 mv rfl
 obtain ⟨hg,⟨hbk,rfl⟩|⟨m,D,hbk,hFm,hn,hown,hm⟩⟩:=h
 ·exact ⟨hg,.inl ⟨(k.block g (Array.getElem?_eq_some_iff.1 hbk).1 (hne g _ hbk)).trans hbk,rfl⟩⟩
 ·have hmb:¬ m=b:=fun e=>by
   subst e
   exact map_no_cells hown _ _ _ hb
  exact ⟨hg,.inr ⟨m,D,(k.block g (Array.getElem?_eq_some_iff.1 hbk).1 (hne g _ hbk)).trans hbk,hFm,hn,ownsMap_block hown (k.block m hown.lt hmb),⟨hm.size,hm.rng,hm.keys,fun c r ct hc=>by obtain ⟨sl,e1,e2⟩:=hm.vals c r ct hc;exact ⟨sl,e1,e2.off k hb hp⟩,hm.once⟩⟩⟩
theorem Pts.off {w w':World} {B b:Nat} {F:Nat→Prop} {v:Value} {ys:List (Cc×Value)} {cs:Array Value} {ty:TypeId} (h:Pts w B F v ys) (k:Kp w w' (fun i=>i=b)) (hb:w.heap[b]? = some (.cells cs ty (0,0))) (hp:Plain cs) (ht:ty ≠ 84):Pts w' B F v ys:=by
 refine ⟨⟨h.row.1,?_⟩,fun y hy=>(h.tree y hy).off k hb hp⟩
 rcases h.row.2 with q|⟨g,c,cur,e1,e2,e3,rest⟩
 ·exact .inl q
 ·refine .inr ⟨g,c,cur,e1,e2,(k.block g (Array.getElem?_eq_some_iff.1 e3).1 (fun e=>?_)).trans e3,rest⟩
  have e':g=b:=e
  subst e'
  rw [hb] at e3
  injection e3 with e3
  injection e3 with _ h2 _
  exact ht h2
theorem DG.off {w w':World} {B r b:Nat} {v:Value} {ys:List (Cc×Value)} {cs:Array Value} {ty:TypeId} (h:DG w B r v ys) (k:Kp w w' (fun i=>i=b)) (hb:w.heap[b]? = some (.cells cs ty (0,0))) (hp:Plain cs) (ht:ty ≠ 84) (hr:r≠b):DG w' B r v ys:=
 ⟨h.box.kp k hr,h.pts.off k hb hp ht⟩
theorem DG.down {w:World} {B B' r:Nat} {v:Value} {ys:List (Cc×Value)} (h:DG w B r v ys) (hB:B'≤B):DG w B' r v ys:=⟨h.box,ownsRow_low h.pts.row hB,h.pts.tree⟩
structure GG (F:Nat→Prop) (W:World) (B:Nat) (g:Nat→Nat) (L:Nat→List Cc):Prop where
 gi:∀ k,k < 2→GridIn W F (g k) (L k)
 ok:∀ k,k < 2→Ok17 (L k)
 ap:Apart W (g 0) (g 1)
 lo:∀ k,k < 2→B≤g k
 mp:∀ k,k < 2→∀ m,W.heap[g k]? = some (.cells #[.map (some m)] 68 (0,0))→B≤m
structure DD (W:World) (B:Nat) (r:Nat→Nat) (v:Nat→Value) (ys:Nat→List (Cc×Value)):Prop where
 dg:∀ k,k < 2→DG W B (r k) (v k) (ys k)
 ne:r 0≠r 1
 lo:∀ k,k < 2→B≤r k
structure PP (W:World) (B xw bg br:Nat) (g r:Nat→Nat):Prop where
 xs:Blk W xw [.slice (some ⟨bg,0,none⟩) 2 2,.slice (some ⟨br,0,none⟩) 2 2] 34
 gs:Blk W bg [.pointer (some ⟨g 0,0,none⟩),.pointer (some ⟨g 1,0,none⟩)] 25
 rs:Blk W br [.pointer (some ⟨r 0,0,none⟩),.pointer (some ⟨r 1,0,none⟩)] 28
 lo:B≤xw∧B≤bg∧B≤br
structure KK (L K:Nat→List Cc) (ys:Nat→List (Cc×Value)):Prop where
 al:∀ k,k < 2→Al (L k) (K k)
 ks:∀ k,k < 2→(ys k).map (·.1)=K k
 tx:∀ k,k < 2→∀ x∈K k,x.2.t.txt∧x.2.v.s.size≤140737488355328
structure PlayS (W:World) (B xw bg br:Nat) (g r:Nat→Nat) (L K:Nat→List Cc) (v:Nat→Value) (ys:Nat→List (Cc×Value)):Prop where
 gg:GG FA W B g L
 dd:DD W B r v ys
 pp:PP W B xw bg br g r
 kk:KK L K ys
theorem GG.g0 {F:Nat→Prop} {W:World} {B:Nat} {g:Nat→Nat} {L:Nat→List Cc} (h:GG F W B g L) {k:Nat} (hk:k < 2):GI 0 W (g k) (L k):=GridIn.mono (h.gi _ hk) (fun _ _=>Nat.zero_le _)
theorem GG.lt {F:Nat→Prop} {W:World} {B:Nat} {g:Nat→Nat} {L:Nat→List Cc} (h:GG F W B g L) {k:Nat} (hk:k < 2):g k < W.heap.size:=by
 obtain ⟨mv,bg⟩:=(h.g0 hk).blk
 exact bg.lt
theorem GG.mono {F G:Nat→Prop} {W:World} {B:Nat} {g:Nat→Nat} {L:Nat→List Cc} (h:GG F W B g L) (hFG:∀ i,F i→G i):GG G W B g L:=⟨fun k hk=>GridIn.mono (h.gi k hk) hFG,h.ok,h.ap,h.lo,h.mp⟩
theorem GG.low {F:Nat→Prop} {W:World} {B:Nat} {g:Nat→Nat} {L:Nat→List Cc} (h:GG F W B g L):GG (fun i=>i < W.heap.size) W B g L:=⟨fun _ hk=>(h.g0 hk).low,h.ok,h.ap,h.lo,h.mp⟩
theorem GG.keep {F S:Nat→Prop} {W W':World} {B:Nat} {g:Nat→Nat} {L:Nat→List Cc} (h:GG F W B g L) (k:Kp W W' S) (hS:∀ j,j < 2 → ¬ S (g j)) (hg:∀ j,j < 2→GridIn W' F (g j) (L j)):GG F W' B g L:=
 ⟨hg,h.ok,h.ap.keeps k (h.lt (k:=0) (by omega)) (h.lt (k:=1) (by omega)) (hS 0 (by omega)) (hS 1 (by omega)),h.lo,fun j hj m hm=>h.mp j hj m (by rw [← k.block (g j) (h.lt hj) (hS j hj)];exact hm)⟩
theorem GG.nul {F:Nat→Prop} {W W':World} {B:Nat} {g:Nat→Nat} {L:Nat→List Cc} (h:GG F W B g L) (k:Kp W W' Nul):GG F W' B g L:=h.keep k (fun _ _ x=>x) (fun j hj=>(h.gi j hj).kp k)
theorem GG.far {F S:Nat→Prop} {W W':World} {B:Nat} {g:Nat→Nat} {L:Nat→List Cc} (h:GG F W B g L) (k:Kp W W' S) (hS:∀ i,F i → ¬ S i):GG F W' B g L:=h.keep k (fun j hj=>hS _ (h.gi j hj).1) (fun j hj=>(h.gi j hj).far k hS)
theorem GG.off {F:Nat→Prop} {W W':World} {B b:Nat} {g:Nat→Nat} {L:Nat→List Cc} {cs:Array Value} {ty:TypeId} (h:GG F W B g L) (k:Kp W W' (fun i=>i=b)) (hb:W.heap[b]? = some (.cells cs ty (0,0))) (hp:Plain cs):GG F W' B g L:=
 h.keep k (fun j hj e=>by
  have e':g j=b:=e
  obtain ⟨mv,hbk⟩:=(h.g0 hj).blk
  rw [e'] at hbk
  have q:=hb.symm.trans hbk
  injection q with q
  injection q with h1 _ _
  subst h1
  exact (hp 0 _ rfl).2 mv rfl) (fun j hj=>(h.gi j hj).off k hb hp)
theorem GG.apart {F:Nat→Prop} {W:World} {B:Nat} {g:Nat→Nat} {L:Nat→List Cc} (h:GG F W B g L) {k j:Nat} (hk:k < 2) (hj:j < 2) (hne:j≠k):Apart W (g k) (g j):=by
 have:(k=0∧j=1)∨(k=1∧j=0):=by omega
 rcases this with ⟨rfl,rfl⟩|⟨rfl,rfl⟩
 ·exact h.ap
 ·exact h.ap.symm
theorem GG.km {F:Nat→Prop} {W W':World} {B:Nat} {g:Nat→Nat} {L:Nat→List Cc} (h:GG F W B g L) (hB:B≤W.heap.size) {k:Nat} (hk:k < 2) (q:Km (g k) W W') {L':List Cc} (hg:GridIn W' F (g k) L') (ho:Ok17 L'):GG F W' B g (upd L k L'):=by
 obtain ⟨mv,bk⟩:=(h.g0 hk).blk
 have hoth:∀ j,j < 2→j≠k→GridIn W' F (g j) (L j)∧Apart W' (g k) (g j)∧W'.heap[g j]? = W.heap[g j]?:=fun j hj hne=>by
  have ha:=h.apart hk hj hne
  obtain ⟨mv',bj⟩:=(h.g0 hj).blk
  exact ⟨(h.gi j hj).other q bk ha,ha.step q (h.g0 hj),Km.cells q bj ha.1.symm⟩
 refine ⟨fun j hj=>?_,fun j hj=>?_,?_,h.lo,fun j hj m hm=>?_⟩
 ·by_cases e:j=k
  ·subst e;rw [upd_same];exact hg
  ·rw [upd_other _ _ e];exact (hoth j hj e).1
 ·by_cases e:j=k
  ·subst e;rw [upd_same];exact ho
  ·rw [upd_other _ _ e];exact h.ok j hj
 ·have:k=0∨k=1:=by omega
  rcases this with rfl|rfl
  ·exact (hoth 1 (by omega) (by omega)).2.1
  ·exact (hoth 0 (by omega) (by omega)).2.1.symm
 ·by_cases e:j=k
  ·subst e
   rcases q.own m hm with e1|e1
   ·exact h.mp j hj m e1
   ·omega
  ·rw [(hoth j hj e).2.2] at hm
   exact h.mp j hj m hm
theorem DD.nul {W W':World} {B:Nat} {r:Nat→Nat} {v:Nat→Value} {ys:Nat→List (Cc×Value)} (h:DD W B r v ys) (k:Kp W W' Nul):DD W' B r v ys:=⟨fun j hj=>(h.dg j hj).kp k,h.ne,h.lo⟩
theorem DD.km {W W':World} {B g:Nat} {r:Nat→Nat} {v:Nat→Value} {ys:Nat→List (Cc×Value)} (h:DD W B r v ys) (q:Km g W W') {mv:Option Nat} (hg:Blk W g [.map mv] 68):DD W' B r v ys:=⟨fun j hj=>(h.dg j hj).km q hg,h.ne,h.lo⟩
theorem DD.apart {W:World} {B:Nat} {r:Nat→Nat} {v:Nat→Value} {ys:Nat→List (Cc×Value)} (h:DD W B r v ys) {k j:Nat} (hk:k < 2) (hj:j < 2) (hne:j≠k):r j≠r k:=by
 have:(k=0∧j=1)∨(k=1∧j=0):=by omega
 rcases this with ⟨rfl,rfl⟩|⟨rfl,rfl⟩
 ·exact h.ne.symm
 ·exact h.ne
theorem plain_slice {p:Option Addr} {n c:Nat}:Plain #[.slice p n c]:=fun i v h=>by
 have e:v=.slice p n c:=by
  rcases Array.getElem?_eq_some_iff.1 h with ⟨hi,rfl⟩
  have:i=0:=by simp at hi;exact hi
  subst this
  rfl
 subst e
 exact ⟨(fun _ _ q=>nomatch q),(fun _ q=>nomatch q)⟩
theorem plain_ptrs {p q:Option Addr}:Plain #[.pointer p,.pointer q]:=fun i v h=>by
 have e:v=.pointer p∨v=.pointer q:=by
  rcases Array.getElem?_eq_some_iff.1 h with ⟨hi,rfl⟩
  have:i=0∨i=1:=by simp at hi;omega
  rcases this with rfl|rfl
  ·exact .inl rfl
  ·exact .inr rfl
 rcases e with e|e
 ·subst e;exact ⟨(fun _ _ q=>nomatch q),(fun _ q=>nomatch q)⟩
 ·subst e;exact ⟨(fun _ _ q=>nomatch q),(fun _ q=>nomatch q)⟩
theorem DG.plain {w:World} {B r:Nat} {v:Value} {ys:List (Cc×Value)} (h:DG w B r v ys):Plain #[v]:=by
 obtain ⟨p,c,rfl,_⟩:=h.pts.slice
 exact plain_slice
theorem DD.step {W W':World} {B:Nat} {r:Nat→Nat} {v:Nat→Value} {ys:Nat→List (Cc×Value)} (h:DD W B r v ys) {k:Nat} (hk:k < 2) (q:Kp W W' (fun i=>i=r k)) {v':Value} {ys':List (Cc×Value)} (hd:DG W' B (r k) v' ys'):DD W' B r (upd v k v') (upd ys k ys'):=by
 refine ⟨fun j hj=>?_,h.ne,h.lo⟩
 by_cases e:j=k
 ·subst e;rw [upd_same,upd_same];exact hd
 ·rw [upd_other _ _ e,upd_other _ _ e]
  exact (h.dg j hj).off q (h.dg k hk).box (h.dg k hk).plain (by decide) (h.apart hk hj e)
theorem PP.keep {W W':World} {B xw bg br:Nat} {g r:Nat→Nat} {S:Nat→Prop} (h:PP W B xw bg br g r) (k:Kp W W' S) (h1:¬ S xw) (h2:¬ S bg) (h3:¬ S br):PP W' B xw bg br g r:=⟨h.xs.kp k h1,h.gs.kp k h2,h.rs.kp k h3,h.lo⟩
theorem PP.nul {W W':World} {B xw bg br:Nat} {g r:Nat→Nat} (h:PP W B xw bg br g r) (k:Kp W W' Nul):PP W' B xw bg br g r:=h.keep k (fun x=>x) (fun x=>x) (fun x=>x)
theorem PP.km {W W':World} {B xw bg br o:Nat} {g r:Nat→Nat} (h:PP W B xw bg br g r) (q:Km o W W') {mv:Option Nat} (ho:Blk W o [.map mv] 68):PP W' B xw bg br g r:=⟨q.blk h.xs (Blk.ne h.xs ho (by decide)),q.blk h.gs (Blk.ne h.gs ho (by decide)),q.blk h.rs (Blk.ne h.rs ho (by decide)),h.lo⟩
theorem PP.off {W W':World} {B xw bg br o:Nat} {g r:Nat→Nat} {v:Value} (h:PP W B xw bg br g r) (q:Kp W W' (fun i=>i=o)) (ho:Blk W o [v] 31):PP W' B xw bg br g r:=h.keep q (Blk.ne h.xs ho (by decide)) (Blk.ne h.gs ho (by decide)) (Blk.ne h.rs ho (by decide))
theorem PlayS.nul {W W':World} {B xw bg br:Nat} {g r:Nat→Nat} {L K:Nat→List Cc} {v:Nat→Value} {ys:Nat→List (Cc×Value)} (h:PlayS W B xw bg br g r L K v ys) (k:Kp W W' Nul):PlayS W' B xw bg br g r L K v ys:=⟨h.gg.nul k,h.dd.nul k,h.pp.nul k,h.kk⟩
theorem GG.old {F:Nat→Prop} {W W':World} {B:Nat} {g:Nat→Nat} {L:Nat→List Cc} (h:GG F W B g L) {k:Nat} (hk:k < 2) (q:Km (g k) W W'):Kp W W' (fun i=>B≤i):=q.kp.mono (fun i _ e=>by
 rcases e with e|⟨e,_⟩
 ·have:=h.lo k hk
  have e':i=g k:=e
  show B≤i
  omega
 ·exact h.mp k hk i e)
mutual
theorem cpy_txt:∀ t:Nd,t.txt→(cpy t).txt
 | .mk h ts,q=>by
  rw [Nd.txt] at q
  rw [cpy,Nd.txt]
  exact ⟨q.1,cpyL_txt ts q.2⟩
theorem cpyL_txt:∀ ts:List Nd,txtL ts→txtL (cpyL ts)
 | [],_=>by rw [cpyL,txtL];trivial
 | t :: ts,q=>by
  rw [txtL] at q
  rw [cpyL,txtL]
  exact ⟨cpy_txt t q.1,cpyL_txt ts q.2⟩
end
def Tx (c:Ct):Prop:=c.t.txt∧c.v.s.size≤140737488355328
theorem Tx.cp {c:Ct} (h:Tx c):Tx (cpC c):=⟨cpy_txt _ h.1,h.2⟩
theorem Tx.zero:Tx ct0:=by
 refine ⟨?_,by decide⟩
 show zNd.txt
 unfold zNd
 rw [Nd.txt]
 exact ⟨by decide,by rw [txtL];trivial⟩
theorem rpK_tx {V:Bool} {K:List Cc} {lo:Nat} {c s:Int} {ct:Ct} (h:∀ x∈K,Tx x.2) (hc:Tx ct):∀ x∈rpK V K lo c s ct,Tx x.2:=fun x hx=>by
 unfold rpK at hx
 split at hx
 ·unfold insK at hx
  rw [List.mem_append,List.mem_append] at hx
  rcases hx with q|q|q
  ·exact h x (List.mem_of_mem_take q)
  ·unfold midC at q
   split at q
   ·simp at q
   ·rw [List.mem_singleton] at q
    subst q
    exact hc.cp
  ·exact h x (List.mem_of_mem_drop q)
 ·exact h x hx
theorem KK.step {L K:Nat→List Cc} {ys:Nat→List (Cc×Value)} (h:KK L K ys) {k:Nat} {L' K':List Cc} {ys':List (Cc×Value)} (ha:Al L' K') (hy:ys'.map (·.1)=K') (ht:∀ x∈K',Tx x.2):KK (upd L k L') (upd K k K') (upd ys k ys'):=by
 refine ⟨fun j hj=>?_,fun j hj=>?_,fun j hj=>?_⟩
 ·by_cases e:j=k
  ·subst e;rw [upd_same,upd_same];exact ha
  ·rw [upd_other _ _ e,upd_other _ _ e];exact h.al j hj
 ·by_cases e:j=k
  ·subst e;rw [upd_same,upd_same];exact hy
  ·rw [upd_other _ _ e,upd_other _ _ e];exact h.ks j hj
 ·by_cases e:j=k
  ·subst e;rw [upd_same];exact ht
  ·rw [upd_other _ _ e];exact h.tx j hj
end Go.Proofs.YtlppcfeakakpfaaGreatDoor
