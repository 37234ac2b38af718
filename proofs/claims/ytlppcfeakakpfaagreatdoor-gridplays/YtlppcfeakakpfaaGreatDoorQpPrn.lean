/- GridPlays: told: a range tells just what is wanted. By wip/gen_prn.py. GridPlays: puts; Equal and Puts of no other grid; Get of any cell. By wip/gen_pro.py. GridPlays: two grids, and the document's: what holds between two steps. -/
import Derived.Test.YtlppcfeakakpfaaGreatDoorQpPrg
import Derived.Test.YtlppcfeakakpfaaGreatDoorQpJg
import Derived.Test.YtlppcfeakakpfaaGreatDoorQpPrl
set_option maxRecDepth 20000
set_option maxHeartbeats 16000000
namespace Go.Proofs.YtlppcfeakakpfaaGreatDoor
open Go.RowKit Go.Maps Go.Sort Go.Lib Go.Shelf
attribute [local go_sem] Oper.semAt_some
structure ToI (w:World) (vw:Value) (lv:Int) (j:Nat) (Z:Nat→Prop) (W:World):Prop where
 b0:Blk W w.heap.size [vw] 29
 b1:Blk W (w.heap.size+1) [.int .i64 lv] 3
 b2:Blk W (w.heap.size+2) [.bool false] 4
 b3:Blk W (w.heap.size+3) [.int .i64 (j:Nat)] 3
 z:∀ i,Z i ↔ i=w.heap.size+2∨i=w.heap.size+3
 kp:Kp w W Nul
theorem ToI.far {w:World} {vw:Value} {lv:Int} {j:Nat} {Z S:Nat→Prop} {W V:World} (h:ToI w vw lv j Z W) (k:Kp W V S) (hS:∀ i,S i→w.heap.size+4≤i):ToI w vw lv j Z V:=
 ⟨h.b0.kp k (fun e=>by have:=hS _ e;omega),h.b1.kp k (fun e=>by have:=hS _ e;omega),h.b2.kp k (fun e=>by have:=hS _ e;omega),h.b3.kp k (fun e=>by have:=hS _ e;omega),h.z,h.kp.trans' k (fun i hi e=>by have:=hS _ e;omega)⟩
end Go.Proofs.YtlppcfeakakpfaaGreatDoor
namespace Go.Proofs.YtlppcfeakakpfaaGreatDoor
open Go.RowKit Go.Maps Go.Sort Go.Lib Go.Shelf
theorem equal_none (g:Nat) (w:World):Calls Tryz.prog 28 #[.pointer (some ⟨g,0,none⟩),.pointer none] w fun e w'=>e=.returned (.bool false)∧Kp w w' Nul:=by
 go_enter Tryz.func28,Tryz.ntmps28
 go_wp2_with fail
 refine wp_region_noPanic ?_
 refine wp_region_hel (fun w':World=>Kp w w' Nul) (by kernel_rfl) ((Kp.refl _ _).drew) (fun hHeld=>?_)
 refine wpH_takes (i:=0) (v:=.pointer (some ⟨g,0,none⟩)) (some 5) rfl rfl (by kernel_rfl) (by kernel_rfl) (by kernel_rfl) (fun _ _ _ h=>h) (Or.inl ⟨by rfl,?_⟩) hHeld ?_
 ·intro w' hSw;clear hSw;go_simp
 simp only [Act.put,List.setIfInBounds_toArray,List.set_cons_zero,List.set_cons_succ]
 refine wpH_takes (i:=1) (v:=.bool true) (some 6) rfl rfl (by kernel_rfl) (by kernel_rfl) (by kernel_rfl) (fun _ _ _ h=>h) (Or.inl ⟨by rfl,?_⟩) hHeld ?_
 ·intro w' hSw;clear hSw;go_simp
 simp only [Act.put,List.setIfInBounds_toArray,List.set_cons_zero,List.set_cons_succ]
 refine wpH_takes (i:=2) (v:=.bool true) (some 7) rfl rfl (by kernel_rfl) (by kernel_rfl) (by kernel_rfl) (fun _ _ _ h=>h) (Or.inl ⟨by rfl,?_⟩) hHeld ?_
 ·intro w' hSw;clear hSw;go_simp
 simp only [Act.put,List.setIfInBounds_toArray,List.set_cons_zero,List.set_cons_succ]
 refine wpH_takes (i:=3) (v:=.pointer none) (some 8) rfl rfl (by kernel_rfl) (by kernel_rfl) (by kernel_rfl) (fun _ _ _ h=>h) (Or.inl ⟨by rfl,?_⟩) hHeld ?_
 ·intro w' hSw;clear hSw;go_simp
 simp only [Act.put,List.setIfInBounds_toArray,List.set_cons_zero,List.set_cons_succ]
 refine wpH_takes (i:=4) (v:=.bool false) (some 9) rfl rfl (by kernel_rfl) (by kernel_rfl) (by kernel_rfl) (fun _ _ _ h=>h) (Or.inl ⟨by rfl,?_⟩) hHeld ?_
 ·intro w' hSw;clear hSw;go_simp
 simp only [Act.put,List.setIfInBounds_toArray,List.set_cons_zero,List.set_cons_succ]
 refine wpH_takes (i:=5) (v:=.bool false) (some 10) rfl rfl (by kernel_rfl) (by kernel_rfl) (by kernel_rfl) (fun _ _ _ h=>h) (Or.inl ⟨by rfl,?_⟩) hHeld ?_
 ·intro w' hSw;clear hSw;go_simp
 simp only [Act.put,List.setIfInBounds_toArray,List.set_cons_zero,List.set_cons_succ]
 refine wpH_takes (i:=6) (v:=.bool false) (some 11) rfl rfl (by kernel_rfl) (by kernel_rfl) (by kernel_rfl) (fun _ _ _ h=>h) (Or.inl ⟨by rfl,?_⟩) hHeld ?_
 ·intro w' hSw;clear hSw;go_simp
 simp only [Act.put,List.setIfInBounds_toArray,List.set_cons_zero,List.set_cons_succ]
 refine wpH_takes (i:=7) (v:=undef) (some 12) rfl rfl (by kernel_rfl) (by kernel_rfl) (by kernel_rfl) (fun _ _ _ h=>h) (Or.inr ⟨by rfl,rfl⟩) hHeld ?_
 simp only [Act.put,List.setIfInBounds_toArray,List.set_cons_zero,List.set_cons_succ]
 refine wpH_takes (i:=8) (v:=undef) (some 13) rfl rfl (by kernel_rfl) (by kernel_rfl) (by kernel_rfl) (fun _ _ _ h=>h) (Or.inr ⟨by rfl,rfl⟩) hHeld ?_
 simp only [Act.put,List.setIfInBounds_toArray,List.set_cons_zero,List.set_cons_succ]
 refine wpH_takes (i:=9) (v:=undef) (some 14) rfl rfl (by kernel_rfl) (by kernel_rfl) (by kernel_rfl) (fun _ _ _ h=>h) (Or.inr ⟨by rfl,rfl⟩) hHeld ?_
 simp only [Act.put,List.setIfInBounds_toArray,List.set_cons_zero,List.set_cons_succ]
 refine wpH_takes (i:=10) (v:=undef) (some 15) rfl rfl (by kernel_rfl) (by kernel_rfl) (by kernel_rfl) (fun _ _ _ h=>h) (Or.inr ⟨by rfl,rfl⟩) hHeld ?_
 simp only [Act.put,List.setIfInBounds_toArray,List.set_cons_zero,List.set_cons_succ]
 refine wpH_takes (i:=11) (v:=undef) (some 16) rfl rfl (by kernel_rfl) (by kernel_rfl) (by kernel_rfl) (fun _ _ _ h=>h) (Or.inr ⟨by rfl,rfl⟩) hHeld ?_
 simp only [Act.put,List.setIfInBounds_toArray,List.set_cons_zero,List.set_cons_succ]
 refine wpH_takes (i:=12) (v:=undef) (some 17) rfl rfl (by kernel_rfl) (by kernel_rfl) (by kernel_rfl) (fun _ _ _ h=>h) (Or.inr ⟨by rfl,rfl⟩) hHeld ?_
 simp only [Act.put,List.setIfInBounds_toArray,List.set_cons_zero,List.set_cons_succ]
 refine wpH_takes (i:=13) (v:=undef) (some 18) rfl rfl (by kernel_rfl) (by kernel_rfl) (by kernel_rfl) (fun _ _ _ h=>h) (Or.inr ⟨by rfl,rfl⟩) hHeld ?_
 simp only [Act.put,List.setIfInBounds_toArray,List.set_cons_zero,List.set_cons_succ]
 refine wpH_takes (i:=14) (v:=undef) (some 19) rfl rfl (by kernel_rfl) (by kernel_rfl) (by kernel_rfl) (fun _ _ _ h=>h) (Or.inr ⟨by rfl,rfl⟩) hHeld ?_
 simp only [Act.put,List.setIfInBounds_toArray,List.set_cons_zero,List.set_cons_succ]
 refine wpH_takes (i:=15) (v:=undef) (some 20) rfl rfl (by kernel_rfl) (by kernel_rfl) (by kernel_rfl) (fun _ _ _ h=>h) (Or.inr ⟨by rfl,rfl⟩) hHeld ?_
 simp only [Act.put,List.setIfInBounds_toArray,List.set_cons_zero,List.set_cons_succ]
 refine wpH_takes (i:=16) (v:=.bool false) (some 21) rfl rfl (by kernel_rfl) (by kernel_rfl) (by kernel_rfl) (fun _ _ _ h=>h) (Or.inl ⟨by rfl,?_⟩) hHeld ?_
 ·intro w' hSw;clear hSw;go_simp
 simp only [Act.put,List.setIfInBounds_toArray,List.set_cons_zero,List.set_cons_succ]
 refine wpH_takes (i:=17) (v:=.bool false) (some 4) rfl rfl (by kernel_rfl) (by kernel_rfl) (by kernel_rfl) (fun _ _ _ h=>h) (Or.inl ⟨by rfl,?_⟩) hHeld ?_
 ·intro w' hSw;clear hSw;go_simp
 simp only [Act.put,List.setIfInBounds_toArray,List.set_cons_zero,List.set_cons_succ]
 refine wpAnyH_done (by kernel_rfl) ?_ _
 refine NoPanic.normal ?_
 clear hHeld
 go_wp2_with fail
 go_ret
 exact ⟨rfl,(Kp.refl _ _).drew⟩
theorem puts_none (g:Nat) (w:World):Calls Tryz.prog 31 #[.pointer (some ⟨g,0,none⟩),.pointer none] w fun e w'=>e=.returned (.slice none 0 0)∧Kp w w' Nul:=by
 go_enter Tryz.func31,Tryz.ntmps31
 go_wp2_with fail
 go_ret
 exact ⟨rfl,Kp.refl _ _⟩
def Rd17 (L:List Cc) (p:Int×Int) (u:Ct):Prop:=(p,u)∈L∨(u=ct0∧∀ a,(p,a) ∉ L)
theorem get17 (g:Nat) (M:List Cc) (w:World) (hg:GI 0 w g M) (hM:Ok17 M) (c s:Int) (hc:I64 c) (hs:I64 s) :
  ∃ u,Rd17 M (c,s) u∧u.v.x < 18446744073709551616∧u.t.ok∧u.t.size≤1048576∧cpC u=u∧∀ wq,Kp w wq Nul→Calls Tryz.prog 13 #[.pointer (some ⟨g,0,none⟩),.agg #[.int .i64 c,.int .i64 s]] wq fun e w'=>∃ sl' fp,e=.returned (u.val sl')∧Own w' wq.heap.size sl' u.t fp∧Kp wq w' Nul:=by
 obtain ⟨mv,bo⟩:=hg.blk
 obtain ⟨a',sa,bb,hlk,hinA,hax,hao,hasz,hacp,hcase⟩:=look_ct hg hM.gd hc hs bo
 refine ⟨a',?_,hax,hao,hasz,hacp,fun wq k=>get_own g c s mv (a'.val sa) bb a' wq (lk_kp hlk k) (fun wq' k'=>?_)⟩
 ·rcases hcase with ⟨_,h⟩|⟨_,h1,_,h2⟩
  ·exact .inl h
  ·exact .inr ⟨h1,h2⟩
 ·refine (gCopy_at a' sa (fun b=>0≤b) wq' hax hasz hao (hinA.kp (k.trans k') (fun _ _ x=>x))).mono ?_
  rintro e w' ⟨sl',fp,rfl,h1,h2⟩
  rw [hacp] at h1 ⊢
  exact ⟨sl',fp,rfl,h1,Kp.of_below h2⟩
structure PuI (w:World) (B C b n:Nat) (zs:List ((Cc×Value)×List Nat)) (q:Nat) (wr:World):Prop where
 rng:∀ i z,q≤i→zs[i]? = some z→wr.rangeAt b (i * 23) (ptCells z.1.1 z.1.2)
 own:∀ i z,q≤i→zs[i]? = some z→Own wr 0 z.1.2 z.1.1.2.t z.2
 the:wr.there b 0 (n * 23)
 kp:Kp w wr (fun i=>B≤i∧i < C)
theorem dis_at {zs:List ((Cc×Value)×List Nat)} (h:zs.Pairwise fun x y=>∀ i∈x.2,i ∉ y.2) {q i:Nat} {x y:(Cc×Value)×List Nat} (hq:zs[q]? = some x) (hi:zs[i]? = some y) (hlt:q < i):∀ k∈x.2,k ∉ y.2:=by
 obtain ⟨h1,rfl⟩:=List.getElem?_eq_some_iff.1 hq
 obtain ⟨h2,rfl⟩:=List.getElem?_eq_some_iff.1 hi
 exact List.pairwise_iff_getElem.1 h q i h1 h2 hlt
theorem zput_ones:(ptCells ((0,0),ct0) (.slice none 0 0)).toArray.all (·.oneCell')=true:=all_oneCell_toArray (pt_one _ rfl)
theorem infoPutZ:(Tryz.prog.info? 84).map (·.size)=some (ptCells ((0,0),ct0) (.slice none 0 0)).toArray.size:=by kernel_rfl
theorem puts17_at (B C:Nat) (v:Value) (zs:List ((Cc×Value)×List Nat)) (v':Value) (ys:List (Cc×Value)) (w:World) (hp:Pts w B (fun _=>True) v (zs.map (·.1))) (ho:PtO w B v zs) (hC:∀ z∈zs,∀ i∈z.2,i < C) (hvC:∀ i,v.ownBlock=some i→i < C)
  (hw:Pts w C (fun i=>i < B) v' ys) (hK:zs.map (·.1.1)=ys.map (·.1)) (hsz:∀ z∈zs,z.1.1.2.t.size≤1048576) (hn4:zs.length≤8192) :
  Calls Tryz.prog 30 #[v,v'] w fun e w'=>e=.returned (.bool true)∧Kp w w' (fun i=>B≤i∧i < C):=by
 obtain ⟨n,hn⟩:∃ n,zs.length=n:=⟨_,rfl⟩
 have hyn:ys.length=n:=by rw [← hn];have:=congrArg List.length hK;simpa using this.symm
 obtain ⟨p,cp,rfl,hpp⟩:=hp.slice
 obtain ⟨p',cp',rfl,hpp'⟩:=hw.slice
 have hlm:(zs.map (·.1)).length=n:=by rw [List.length_map,hn]
 rw [hlm] at hpp hp ho hvC ⊢
 rw [hyn] at hpp' hw ⊢
 have HN:Hid (zs.length=n∧ys.length=n∧n≤8192∧zs.map (·.1.1)=ys.map (·.1)):=⟨hn,hyn,by omega,hK⟩
 have HP:Hid (0 < n→∃ b b',p=some ⟨b,0,none⟩∧p'=some ⟨b',0,none⟩∧B≤b∧b < C∧(∀ z∈zs,b ∉ z.2)∧PuI w B C b n zs 0 w∧∀ i y,ys[i]? = some y→∀ wq,Kp w wq (fun i=>B≤i∧i < C)→wq.rangeAt b' (i * 23) (ptCells y.1 y.2)):=fun h0=>by
  obtain ⟨b,e1,hB,hr⟩:=hpp h0
  obtain ⟨b',e2,hC',hr'⟩:=hpp' h0
  subst e1 e2
  refine ⟨b,b',rfl,rfl,hB,hvC b rfl,fun z hz q=>ho.off z hz b q rfl,⟨fun i z _ hz=>?_,fun i z _ hz=>(ho.own z (List.mem_of_getElem? hz)).le (Nat.zero_le _),?_,Kp.refl _ _⟩,fun i y hy wq k=>rangeAt_kp (hr' i y hy) k (fun e=>by have:=e.2;omega)⟩
  ·exact hr i z.1 (by rw [List.getElem?_map,hz];rfl)
  ·rcases hp.row.2 with ⟨e,_⟩|⟨g,c,cur,e,_,h3,h4,_,h6,_⟩
   ·cases e
   ·injection e with e _ _
    injection e with e
    injection e with e _ _
    subst e
    refine there_of_block h3 0 (n * 23) ?_
    rw [h6,Nat.zero_add]
    rw [hlm] at h4
    exact Nat.mul_le_mul_right 23 h4
 have HT:Hid (∀ y∈ys,∀ wq,Kp w wq (fun i=>B≤i∧i < C)→NdIn wq (fun i=>i < B) y.2 y.1.2.t):=fun y hy wq k=>(hw.tree y hy).kp k (fun i hi e=>by have:=e.1;have hi':i < B:=hi;omega)
 have HD:Hid (zs.Pairwise fun x y=>∀ i∈x.2,i ∉ y.2):=ho.dis
 have HZ:Hid (∀ z∈zs,z.1.1.2.t.size≤1048576∧∀ i∈z.2,B≤i∧i < C):=fun z hz=>⟨hsz z hz,fun i hi=>⟨((ho.own z hz).new i hi).1,hC z hz i hi⟩⟩
 clear hp hpp ho hC hvC hw hpp' hK hsz hn4 hn hyn hlm
 have hnn:((n:Int) == (n:Int))=true:=beq_self_eq_true _
 go_enter Tryz.func30,Tryz.ntmps30
 go_wp2_with fail
 go_loopw [5] (fun i wr=>∃ q:Nat,q≤n∧i=.int .i64 q∧(∀ b,p=some ⟨b,0,none⟩→0 < n→PuI w B C b n zs q wr)∧Kp w wr (fun i=>B≤i∧i < C)) (fun i _=>n - (RowKit.intOf i).toNat)
 case atStart=>
  refine ⟨0,Nat.zero_le _,rfl,fun b hb h0=>?_,Kp.refl _ _⟩
  obtain ⟨b2,b3,e1,_,_,_,_,hI,_⟩:=HP.out h0
  rw [hb] at e1
  injection e1 with e1
  injection e1 with e1 _ _
  subst e1
  exact hI
 case round=>
  obtain ⟨q,hq,rfl,hI,hkr⟩:=hrel
  by_cases hlt:q < n
  ·obtain ⟨b,b',rfl,rfl,hB,hbC,hoff,_,hwr⟩:=HP.out (by omega)
   have HI:Hid (PuI w B C b n zs q wr):=hI b rfl (by omega)
   have hqz:q < zs.length:=by rw [HN.out.1];exact hlt
   have hqy:q < ys.length:=by rw [HN.out.2.1];exact hlt
   obtain ⟨⟨⟨⟨⟨c,s⟩,a⟩,sl⟩,fp⟩,hz⟩:∃ z,zs[q]? = some z:=⟨_,List.getElem?_eq_getElem hqz⟩
   obtain ⟨⟨y1,sr⟩,hy⟩:∃ y,ys[q]? = some y:=⟨_,List.getElem?_eq_getElem hqy⟩
   have hy1:y1=((c,s),a):=by
    have h1:(zs.map (·.1.1))[q]? = some ((c,s),a):=by rw [List.getElem?_map,hz];rfl
    rw [HN.out.2.2.2,List.getElem?_map,hy] at h1
    exact Option.some.inj h1
   subst hy1
   have HKr:Hid (Kp w wr (fun i=>B≤i∧i < C)):=hkr
   have HZq:Hid (zs[q]? = some ((((c,s),a),sl),fp)):=hz
   have HOw:Hid (Own wr 0 sl a.t fp):=HI.out.own q _ (Nat.le_refl _) hz
   have HJ2:Hid ((0:Int)≤(q:Int)∧(q:Int) < (n:Int)):=⟨by omega,by omega⟩
   have HRl:Hid (∀ wq,Kp wr wq Nul→wq.rangeAt b (q * 23) [.int .i64 c,.int .i64 s]∧wq.rangeAt b (q * 23+2) (a.cells sl)):=fun wq k=>pt_parts (rangeAt_kp (HI.out.rng q _ (Nat.le_refl _) hz) k (fun x=>x))
   have HRw:Hid (∀ wq,Kp wr wq Nul→wq.rangeAt b' (q * 23) [.int .i64 c,.int .i64 s]∧wq.rangeAt b' (q * 23+2) (a.cells sr)):=fun wq k=>pt_parts (hwr q _ hy wq (hkr.trans k.of_nul))
   have HJust:Hid (∀ wq,Kp wr wq Nul→Calls Tryz.prog 19 #[.agg (a.cells sl).toArray,.agg (a.cells sr).toArray] wq fun e w'=>e=.returned (.bool true)∧Kp wq w' Nul):=fun wq k=>
    just_at a sl sr (fun _=>True) (fun i=>i < B) wq ((HOw.out.own.isIn (fun _ _=>trivial)).kp k (fun _ _ x=>x)) (HT.out _ (List.mem_of_getElem? hy) wq (hkr.trans k.of_nul))
   have HOver:Hid (∀ wq,Kp wr wq Nul→Calls Tryz.prog 20 #[.agg (a.t.hd.cells sl).toArray] wq fun e w'=>e=.returned (.tuple #[])∧Kp wq w' (fun i=>i∈fp)):=fun wq k=>over_any a.t.size a.t sl fp wq (Nat.le_refl _) (HZ.out _ (List.mem_of_getElem? hz)).1 (HOw.out.kp k (fun _ _ x=>x))
   have HFp:Hid ((∀ i∈fp,B≤i∧i < C)∧b ∉ fp∧B≤b∧b < C):=⟨(HZ.out _ (List.mem_of_getElem? hz)).2,hoff _ (List.mem_of_getElem? hz),hB,hbC⟩
   have hqn:(q:Int) < (n:Int):=by omega
   have hq0:(0:Int)≤(q:Int):=by omega
   have hqb:(q:Int)+1≤9223372036854775807:=by have:=HN.out.2.2.1;omega
   have HOff:Hid (∀ z∈zs,b ∉ z.2):=hoff
   clear hI hkr hqz hqy hz hy hB hbC hoff hwr
   go_upto_region 6 with fail
   refine wp_region_noPanic ?_
   refine wp_region_hel (fun w':World=>Kp wr w' Nul) (by kernel_rfl) ((Kp.refl _ _).drew) (fun hHeld=>?_)
   refine wpH_takes (i:=0) (v:=.slice (some ⟨b,0,none⟩) n cp) (some 18) rfl rfl (by kernel_rfl) (by kernel_rfl) (by kernel_rfl) (fun _ _ _ h=>h) (Or.inl ⟨by rfl,?_⟩) hHeld ?_
   ·intro w' hSw;clear hSw;go_simp
   simp only [Act.put,List.setIfInBounds_toArray,List.set_cons_zero,List.set_cons_succ]
   refine wpH_takes (i:=1) (v:=.int .i64 (q:Nat)) (some 19) rfl rfl (by kernel_rfl) (by kernel_rfl) (by kernel_rfl) (fun _ _ _ h=>h) (Or.inl ⟨by rfl,?_⟩) hHeld ?_
   ·intro w' hSw;clear hSw;go_simp
   simp only [Act.put,List.setIfInBounds_toArray,List.set_cons_zero,List.set_cons_succ]
   refine wpH_takes (i:=2) (v:=.pointer (some ⟨b,q * 23,none⟩)) (some 20) rfl rfl (by kernel_rfl) (by kernel_rfl) (by kernel_rfl) (fun _ _ _ h=>h) (Or.inl ⟨by rfl,?_⟩) hHeld ?_
   ·intro w' hSw;have s0:=HJ2.out.1;have s1:=HJ2.out.2;clear hSw;go_simp
   simp only [Act.put,List.setIfInBounds_toArray,List.set_cons_zero,List.set_cons_succ]
   refine wpH_takes (i:=3) (v:=.pointer (some ⟨b,q * 23+2,none⟩)) (some 21) rfl rfl (by kernel_rfl) (by kernel_rfl) (by kernel_rfl) (fun _ _ _ h=>h) (Or.inl ⟨by rfl,?_⟩) hHeld ?_
   ·intro w' hSw;clear hSw;go_simp
   simp only [Act.put,List.setIfInBounds_toArray,List.set_cons_zero,List.set_cons_succ]
   refine wpH_takes (i:=4) (v:=.agg (a.cells sl).toArray) (some 22) rfl rfl (by kernel_rfl) (by kernel_rfl) (by kernel_rfl) (fun _ _ _ h=>h) (Or.inl ⟨by rfl,fun w' hSw=>exec_load_row 46 (.tmp 21) rfl b (q * 23+2) rfl (a.cells sl) _ ((HRl.out w' hSw).2) Tryz.underlying46 rfl infoContent⟩) hHeld ?_
   simp only [Act.put,List.setIfInBounds_toArray,List.set_cons_zero,List.set_cons_succ]
   refine wpH_takes (i:=5) (v:=(.slice (some ⟨b',0,none⟩) n cp')) (some 23) rfl rfl (by kernel_rfl) (by kernel_rfl) (by kernel_rfl) (fun _ _ _ h=>h) (Or.inl ⟨by rfl,?_⟩) hHeld ?_
   ·intro w' hSw;clear hSw;go_simp
   simp only [Act.put,List.setIfInBounds_toArray,List.set_cons_zero,List.set_cons_succ]
   refine wpH_takes (i:=6) (v:=.int .i64 (q:Nat)) (some 24) rfl rfl (by kernel_rfl) (by kernel_rfl) (by kernel_rfl) (fun _ _ _ h=>h) (Or.inl ⟨by rfl,?_⟩) hHeld ?_
   ·intro w' hSw;clear hSw;go_simp
   simp only [Act.put,List.setIfInBounds_toArray,List.set_cons_zero,List.set_cons_succ]
   refine wpH_takes (i:=7) (v:=(.pointer (some ⟨b',q * 23,none⟩))) (some 25) rfl rfl (by kernel_rfl) (by kernel_rfl) (by kernel_rfl) (fun _ _ _ h=>h) (Or.inl ⟨by rfl,?_⟩) hHeld ?_
   ·intro w' hSw;have s0:=HJ2.out.1;have s1:=HJ2.out.2;clear hSw;go_simp
   simp only [Act.put,List.setIfInBounds_toArray,List.set_cons_zero,List.set_cons_succ]
   refine wpH_takes (i:=8) (v:=(.pointer (some ⟨b',q * 23+2,none⟩))) (some 26) rfl rfl (by kernel_rfl) (by kernel_rfl) (by kernel_rfl) (fun _ _ _ h=>h) (Or.inl ⟨by rfl,?_⟩) hHeld ?_
   ·intro w' hSw;clear hSw;go_simp
   simp only [Act.put,List.setIfInBounds_toArray,List.set_cons_zero,List.set_cons_succ]
   refine wpH_takes (i:=9) (v:=.agg (a.cells sr).toArray) (some 27) rfl rfl (by kernel_rfl) (by kernel_rfl) (by kernel_rfl) (fun _ _ _ h=>h) (Or.inl ⟨by rfl,fun w' hSw=>exec_load_row 46 (.tmp 26) rfl b' (q * 23+2) rfl (a.cells sr) _ ((HRw.out w' hSw).2) Tryz.underlying46 rfl infoContent⟩) hHeld ?_
   simp only [Act.put,List.setIfInBounds_toArray,List.set_cons_zero,List.set_cons_succ]
   refine wpH_step (i:=10) (by kernel_rfl) rfl rfl (fun K hK=>?_)
   go_simp
   refine (HJust.out _ ((Kp.refl wr Nul).drew)).mono ?_
   rintro e v2 ⟨rfl,hk2⟩
   have KV2:Hid (Kp wr v2 Nul):=((Kp.refl wr Nul).drew).trans hk2
   refine hK.out _ _ KV2.out (fun hHeld=>?_)
   clear hK K hk2
   (try simp only [Act.put,List.setIfInBounds_toArray,List.set_cons_zero,List.set_cons_succ])
   refine wpH_takes (i:=11) (v:=.bool true) (some 6) rfl rfl (by kernel_rfl) (by kernel_rfl) (by kernel_rfl) (fun _ _ _ h=>h) (Or.inl ⟨by rfl,?_⟩) hHeld ?_
   ·intro w' hSw;clear hSw;go_simp
   simp only [Act.put,List.setIfInBounds_toArray,List.set_cons_zero,List.set_cons_succ]
   refine wpAnyH_done (by kernel_rfl) ?_ _
   refine NoPanic.normal ?_
   clear hHeld
   go_upto_region 7 with fail
   refine wp_region_noPanic ?_
   refine wp_region_hel (fun w':World=>Kp v2 w' Nul) (by kernel_rfl) ((Kp.refl _ _).drew) (fun hHeld=>?_)
   refine wpH_takes (i:=0) (v:=.bool true) (some 29) rfl rfl (by kernel_rfl) (by kernel_rfl) (by kernel_rfl) (fun _ _ _ h=>h) (Or.inl ⟨by rfl,?_⟩) hHeld ?_
   ·intro w' hSw;clear hSw;go_simp
   simp only [Act.put,List.setIfInBounds_toArray,List.set_cons_zero,List.set_cons_succ]
   refine wpH_takes (i:=1) (v:=.bool false) (some 30) rfl rfl (by kernel_rfl) (by kernel_rfl) (by kernel_rfl) (fun _ _ _ h=>h) (Or.inl ⟨by rfl,?_⟩) hHeld ?_
   ·intro w' hSw;clear hSw;go_simp
   simp only [Act.put,List.setIfInBounds_toArray,List.set_cons_zero,List.set_cons_succ]
   refine wpH_takes (i:=2) (v:=.bool false) (some 31) rfl rfl (by kernel_rfl) (by kernel_rfl) (by kernel_rfl) (fun _ _ _ h=>h) (Or.inl ⟨by rfl,?_⟩) hHeld ?_
   ·intro w' hSw;clear hSw;go_simp
   simp only [Act.put,List.setIfInBounds_toArray,List.set_cons_zero,List.set_cons_succ]
   refine wpH_takes (i:=3) (v:=.slice (some ⟨b,0,none⟩) n cp) (some 32) rfl rfl (by kernel_rfl) (by kernel_rfl) (by kernel_rfl) (fun _ _ _ h=>h) (Or.inl ⟨by rfl,?_⟩) hHeld ?_
   ·intro w' hSw;clear hSw;go_simp
   simp only [Act.put,List.setIfInBounds_toArray,List.set_cons_zero,List.set_cons_succ]
   refine wpH_takes (i:=4) (v:=.int .i64 (q:Nat)) (some 33) rfl rfl (by kernel_rfl) (by kernel_rfl) (by kernel_rfl) (fun _ _ _ h=>h) (Or.inl ⟨by rfl,?_⟩) hHeld ?_
   ·intro w' hSw;clear hSw;go_simp
   simp only [Act.put,List.setIfInBounds_toArray,List.set_cons_zero,List.set_cons_succ]
   refine wpH_takes (i:=5) (v:=.pointer (some ⟨b,q * 23,none⟩)) (some 34) rfl rfl (by kernel_rfl) (by kernel_rfl) (by kernel_rfl) (fun _ _ _ h=>h) (Or.inl ⟨by rfl,?_⟩) hHeld ?_
   ·intro w' hSw;have s0:=HJ2.out.1;have s1:=HJ2.out.2;clear hSw;go_simp
   simp only [Act.put,List.setIfInBounds_toArray,List.set_cons_zero,List.set_cons_succ]
   refine wpH_takes (i:=6) (v:=.pointer (some ⟨b,q * 23,none⟩)) (some 35) rfl rfl (by kernel_rfl) (by kernel_rfl) (by kernel_rfl) (fun _ _ _ h=>h) (Or.inl ⟨by rfl,?_⟩) hHeld ?_
   ·intro w' hSw;clear hSw;go_simp
   simp only [Act.put,List.setIfInBounds_toArray,List.set_cons_zero,List.set_cons_succ]
   refine wpH_takes (i:=7) (v:=.agg ([.int .i64 c,.int .i64 s]).toArray) (some 36) rfl rfl (by kernel_rfl) (by kernel_rfl) (by kernel_rfl) (fun _ _ _ h=>h) (Or.inl ⟨by rfl,fun w' hSw=>exec_load_row 36 (.tmp 35) rfl b (q * 23) rfl ([.int .i64 c,.int .i64 s]) _ ((HRl.out w' (KV2.out.trans hSw)).1) Tryz.underlying36 rfl infoAddr2⟩) hHeld ?_
   simp only [Act.put,List.setIfInBounds_toArray,List.set_cons_zero,List.set_cons_succ]
   refine wpH_takes (i:=8) (v:=(.slice (some ⟨b',0,none⟩) n cp')) (some 37) rfl rfl (by kernel_rfl) (by kernel_rfl) (by kernel_rfl) (fun _ _ _ h=>h) (Or.inl ⟨by rfl,?_⟩) hHeld ?_
   ·intro w' hSw;clear hSw;go_simp
   simp only [Act.put,List.setIfInBounds_toArray,List.set_cons_zero,List.set_cons_succ]
   refine wpH_takes (i:=9) (v:=.int .i64 (q:Nat)) (some 38) rfl rfl (by kernel_rfl) (by kernel_rfl) (by kernel_rfl) (fun _ _ _ h=>h) (Or.inl ⟨by rfl,?_⟩) hHeld ?_
   ·intro w' hSw;clear hSw;go_simp
   simp only [Act.put,List.setIfInBounds_toArray,List.set_cons_zero,List.set_cons_succ]
   refine wpH_takes (i:=10) (v:=(.pointer (some ⟨b',q * 23,none⟩))) (some 39) rfl rfl (by kernel_rfl) (by kernel_rfl) (by kernel_rfl) (fun _ _ _ h=>h) (Or.inl ⟨by rfl,?_⟩) hHeld ?_
   ·intro w' hSw;have s0:=HJ2.out.1;have s1:=HJ2.out.2;clear hSw;go_simp
   simp only [Act.put,List.setIfInBounds_toArray,List.set_cons_zero,List.set_cons_succ]
   refine wpH_takes (i:=11) (v:=(.pointer (some ⟨b',q * 23,none⟩))) (some 40) rfl rfl (by kernel_rfl) (by kernel_rfl) (by kernel_rfl) (fun _ _ _ h=>h) (Or.inl ⟨by rfl,?_⟩) hHeld ?_
   ·intro w' hSw;clear hSw;go_simp
   simp only [Act.put,List.setIfInBounds_toArray,List.set_cons_zero,List.set_cons_succ]
   refine wpH_takes (i:=12) (v:=.agg ([.int .i64 c,.int .i64 s]).toArray) (some 41) rfl rfl (by kernel_rfl) (by kernel_rfl) (by kernel_rfl) (fun _ _ _ h=>h) (Or.inl ⟨by rfl,fun w' hSw=>exec_load_row 36 (.tmp 40) rfl b' (q * 23) rfl ([.int .i64 c,.int .i64 s]) _ ((HRw.out w' (KV2.out.trans hSw)).1) Tryz.underlying36 rfl infoAddr2⟩) hHeld ?_
   simp only [Act.put,List.setIfInBounds_toArray,List.set_cons_zero,List.set_cons_succ]
   refine wpH_takes (i:=13) (v:=.bool false) (some 42) rfl rfl (by kernel_rfl) (by kernel_rfl) (by kernel_rfl) (fun _ _ _ h=>h) (Or.inl ⟨by rfl,?_⟩) hHeld ?_
   ·intro w' hSw;clear hSw;go_simp
   simp only [Act.put,List.setIfInBounds_toArray,List.set_cons_zero,List.set_cons_succ]
   refine wpH_takes (i:=14) (v:=.bool false) (some 43) rfl rfl (by kernel_rfl) (by kernel_rfl) (by kernel_rfl) (fun _ _ _ h=>h) (Or.inl ⟨by rfl,?_⟩) hHeld ?_
   ·intro w' hSw;clear hSw;go_simp
   simp only [Act.put,List.setIfInBounds_toArray,List.set_cons_zero,List.set_cons_succ]
   refine wpAnyH_done (by kernel_rfl) ?_ _
   refine NoPanic.normal ?_
   clear hHeld
   have KV3:Hid (Kp wr v2.drew Nul):=KV2.out.drew
   obtain ⟨v3,hv3⟩:∃ v3,v2.drew=v3:=⟨_,rfl⟩
   rw [hv3] at KV3 ⊢
   have HR6:Hid (v3.rangeAt b (q * 23+2+6) (a.t.hd.cells sl)):=by
    have h:=(HRl.out v3 KV3.out).2
    obtain ⟨k,⟨vk,vx,vs,vb,vf⟩,t⟩:=a
    intro j u hj
    have h1:=h (6+j) u (by rw [Nat.add_comm 6 j];exact hj)
    rw [← Nat.add_assoc] at h1
    exact h1
   clear hv3 KV2 HJust HRw
   go_wp2_with (first
    | (refine wpList_load_mid rfl 44 (.tmp 48) rfl b (q * 23+2+6) rfl (a.t.hd.cells sl) _ HR6.out Tryz.underlying44 rfl infoNode ?_)
    | fail)
   refine (HOver.out _ KV3.out).mono ?_
   rintro e v4 ⟨rfl,hk4⟩
   have hk4':Kp wr v4 (fun i=>i∈fp):=KV3.out.of_nul.trans hk4
   have HTh:Hid (v4.there b (q * 23) 23):=by
    have h:=there_kp HI.out.the hk4' HFp.out.2.1 (rangeAt_lt (HI.out.rng q _ (Nat.le_refl _) HZq.out))
    intro j hj
    have:=h (q * 23+j) (by omega)
    rw [Nat.zero_add] at this
    exact this
   obtain ⟨v5,hv5⟩:∃ v5,v4.setCells b (q * 23) (ptCells ((0,0),ct0) (.slice none 0 0)).toArray.toList=v5:=⟨_,rfl⟩
   have HV5:Hid (v4.setCells b (q * 23) (ptCells ((0,0),ct0) (.slice none 0 0)).toArray.toList=v5):=hv5
   have hk5:Kp v4 v5 (fun i=>i=b):=hv5 ▸ setCells_kp (fun i=>i=b) rfl _ _ _
   have HI5:Hid (PuI w B C b n zs (q+1) v5∧Kp w v5 (fun i=>B≤i∧i < C)):=by
    have hk:Kp w v5 (fun i=>B≤i∧i < C):=(HKr.out.trans (hk4'.mono (fun i _ e=>HFp.out.1 i e))).trans (hk5.mono (fun i _ e=>by have e':i=b:=e;subst e';exact HFp.out.2.2))
    refine ⟨⟨fun i z hi hz=>?_,fun i z hi hz=>?_,?_,hk⟩,hk⟩
    ·have h1:=rangeAt_kp (HI.out.rng i z (by omega) hz) hk4' HFp.out.2.1
     rw [← hv5]
     exact World.rangeAt_setCells_apart h1 _ _ _ (.inr (by rw [pt_len];right;show q * 23+23≤i * 23;omega))
    ·have h1:=(HI.out.own i z (by omega) hz).kp hk4' (fun k hk q'=>dis_at HD.out HZq.out hz (by omega) k q' hk)
     exact h1.kp hk5 (fun k hk e=>by have e':k=b:=e;subst e';exact HOff.out z (List.mem_of_getElem? hz) hk)
    ·have h1:=there_kp HI.out.the hk4' HFp.out.2.1 (rangeAt_lt (HI.out.rng q _ (Nat.le_refl _) HZq.out))
     rw [← hv5]
     exact World.there_setCells h1 _ _ _
   clear hk4 hk4' hk5 hv5 HR6
   go_wp2_with (first
    | (refine wpList_store_mid rfl 84 (.tmp 54) (.tmp 53) rfl b (q * 23) (ptCells ((0,0),ct0) (.slice none 0 0)).toArray rfl rfl HTh.out infoPutZ zput_ones ?_;rw [HV5.out])
    | fail)
   go_roundw
   case rel=>exact ⟨q+1,by omega,by go_num,fun b2 hb2 _=>by injection hb2 with hb2;injection hb2 with hb2 _ _;subst hb2;exact HI5.out.1,HI5.out.2⟩
   case measure=>simp only [RowKit.intOf];omega
  ·have hqe:q=n:=by omega
   subst hqe
   have hqn:¬ ((q:Int) < (q:Int)):=by omega
   have HE:Hid (Kp w wr (fun i=>B≤i∧i < C)):=hkr
   clear hI hkr
   go_wp2_with fail
   go_ret
   exact ⟨rfl,HE.out⟩
def upd {α:Type} (f:Nat→α) (k:Nat) (x:α):Nat→α:=fun j=>if j=k then x else f j
theorem upd_same {α:Type} (f:Nat→α) (k:Nat) (x:α):upd f k x k=x:=if_pos rfl
theorem upd_other {α:Type} (f:Nat→α) {k j:Nat} (x:α) (h:j≠k):upd f k x j=f j:=if_neg h
def Plain (cs:Array Value):Prop:=∀ (i:Nat) (v:Value),cs[i]? = some v→(∀ k x,v≠Value.int k x)∧∀ m,v≠Value.map m
theorem NdIn.off {w w':World} {F:Nat→Prop} {sl:Value} {t:Nd} {b:Nat} {cs:Array Value} {ty:TypeId} (h:NdIn w F sl t) (k:Kp w w' (fun i=>i=b)) (hb:w.heap[b]? = some (.cells cs ty (0,0))) (hp:Plain cs):NdIn w' F sl t:=
 h.monoC fun i hi hc=>by
  obtain ⟨o,q,x,hc⟩:=hc
  refine ⟨k.block i (cell_lt hc) (fun e=>?_),hi⟩
  have e':i=b:=e
  subst e'
  simp only [World.cell?,hb] at hc
  exact (hp o _ hc).1 q x rfl
theorem GridIn.off {w w':World} {F:Nat→Prop} {g b:Nat} {L:List Cc} {cs:Array Value} {ty:TypeId} (h:GridIn w F g L) (k:Kp w w' (fun i=>i=b)) (hb:w.heap[b]? = some (.cells cs ty (0,0))) (hp:Plain cs):GridIn w' F g L:=by
 have hne:∀ (i:Nat) (mv:Option Nat),w.heap[i]? = some (.cells #[.map mv] 68 (0,0)) → ¬ i=b:=fun i mv hi e=>by
  subst e
  rw [hb] at hi
  injection hi with hi
  injection hi with h1 _ _
  subst h1
  exact (hp 0 _ rfl).2 mv rfl
 obtain ⟨hg,⟨hbk,rfl⟩|⟨m,D,hbk,hFm,hn,hown,hm⟩⟩:=h
 ·exact ⟨hg,.inl ⟨(k.block g (Array.getElem?_eq_some_iff.1 hbk).1 (hne g _ hbk)).trans hbk,rfl⟩⟩
 ·have hmb:¬ m=b:=fun e=>by
   subst e
   exact map_no_cells hown _ _ _ hb
  exact ⟨hg,.inr ⟨m,D,(k.block g (Array.getElem?_eq_some_iff.1 hbk).1 (hne g _ hbk)).trans hbk,hFm,hn,ownsMap_block hown (k.block m hown.lt hmb),⟨hm.size,hm.rng,hm.keys,fun c r ct hc=>by obtain ⟨sl,e1,e2⟩:=hm.vals c r ct hc;exact ⟨sl,e1,e2.off k hb hp⟩,hm.once⟩⟩⟩
theorem Pts.off {w w':World} {B b:Nat} {F:Nat→Prop} {v:Value} {ys:List (Cc×Value)} {cs:Array Value} {ty:TypeId} (h:Pts w B F v ys) (k:Kp w w' (fun i=>i=b)) (hb:w.heap[b]? = some (.cells cs ty (0,0))) (hp:Plain cs) (ht:ty ≠ 84):Pts w' B F v ys:=by
 refine ⟨⟨h.row.1,?_⟩,fun y hy=>(h.tree y hy).off k hb hp⟩
 rcases h.row.2 with q|⟨g,c,cur,e1,e2,e3,rest⟩
 ·exact .inl q
 ·refine .inr ⟨g,c,cur,e1,e2,(k.block g (Array.getElem?_eq_some_iff.1 e3).1 (fun e=>?_)).trans e3,rest⟩
  have e':g=b:=e
  subst e'
  rw [hb] at e3
  injection e3 with e3
  injection e3 with _ h2 _
  exact ht h2
theorem DG.off {w w':World} {B r b:Nat} {v:Value} {ys:List (Cc×Value)} {cs:Array Value} {ty:TypeId} (h:DG w B r v ys) (k:Kp w w' (fun i=>i=b)) (hb:w.heap[b]? = some (.cells cs ty (0,0))) (hp:Plain cs) (ht:ty ≠ 84) (hr:r≠b):DG w' B r v ys:=
 ⟨h.box.kp k hr,h.pts.off k hb hp ht⟩
theorem DG.down {w:World} {B B' r:Nat} {v:Value} {ys:List (Cc×Value)} (h:DG w B r v ys) (hB:B'≤B):DG w B' r v ys:=⟨h.box,ownsRow_low h.pts.row hB,h.pts.tree⟩
structure GG (F:Nat→Prop) (W:World) (B:Nat) (g:Nat→Nat) (L:Nat→List Cc):Prop where
 gi:∀ k,k < 2→GridIn W F (g k) (L k)
 ok:∀ k,k < 2→Ok17 (L k)
 ap:Apart W (g 0) (g 1)
 lo:∀ k,k < 2→B≤g k
 mp:∀ k,k < 2→∀ m,W.heap[g k]? = some (.cells #[.map (some m)] 68 (0,0))→B≤m
structure DD (W:World) (B:Nat) (r:Nat→Nat) (v:Nat→Value) (ys:Nat→List (Cc×Value)):Prop where
 dg:∀ k,k < 2→DG W B (r k) (v k) (ys k)
 ne:r 0≠r 1
 lo:∀ k,k < 2→B≤r k
structure PP (W:World) (B xw bg br:Nat) (g r:Nat→Nat):Prop where
 xs:Blk W xw [.slice (some ⟨bg,0,none⟩) 2 2,.slice (some ⟨br,0,none⟩) 2 2] 34
 gs:Blk W bg [.pointer (some ⟨g 0,0,none⟩),.pointer (some ⟨g 1,0,none⟩)] 25
 rs:Blk W br [.pointer (some ⟨r 0,0,none⟩),.pointer (some ⟨r 1,0,none⟩)] 28
 lo:B≤xw∧B≤bg∧B≤br
structure KK (L K:Nat→List Cc) (ys:Nat→List (Cc×Value)):Prop where
 al:∀ k,k < 2→Al (L k) (K k)
 ks:∀ k,k < 2→(ys k).map (·.1)=K k
 tx:∀ k,k < 2→∀ x∈K k,x.2.t.txt∧x.2.v.s.size≤140737488355328
structure PlayS (W:World) (B xw bg br:Nat) (g r:Nat→Nat) (L K:Nat→List Cc) (v:Nat→Value) (ys:Nat→List (Cc×Value)):Prop where
 gg:GG FA W B g L
 dd:DD W B r v ys
 pp:PP W B xw bg br g r
 kk:KK L K ys
theorem GG.g0 {F:Nat→Prop} {W:World} {B:Nat} {g:Nat→Nat} {L:Nat→List Cc} (h:GG F W B g L) {k:Nat} (hk:k < 2):GI 0 W (g k) (L k):=GridIn.mono (h.gi _ hk) (fun _ _=>Nat.zero_le _)
theorem GG.lt {F:Nat→Prop} {W:World} {B:Nat} {g:Nat→Nat} {L:Nat→List Cc} (h:GG F W B g L) {k:Nat} (hk:k < 2):g k < W.heap.size:=by
 obtain ⟨mv,bg⟩:=(h.g0 hk).blk
 exact bg.lt
theorem GG.mono {F G:Nat→Prop} {W:World} {B:Nat} {g:Nat→Nat} {L:Nat→List Cc} (h:GG F W B g L) (hFG:∀ i,F i→G i):GG G W B g L:=⟨fun k hk=>GridIn.mono (h.gi k hk) hFG,h.ok,h.ap,h.lo,h.mp⟩
theorem GG.low {F:Nat→Prop} {W:World} {B:Nat} {g:Nat→Nat} {L:Nat→List Cc} (h:GG F W B g L):GG (fun i=>i < W.heap.size) W B g L:=⟨fun _ hk=>(h.g0 hk).low,h.ok,h.ap,h.lo,h.mp⟩
theorem GG.keep {F S:Nat→Prop} {W W':World} {B:Nat} {g:Nat→Nat} {L:Nat→List Cc} (h:GG F W B g L) (k:Kp W W' S) (hS:∀ j,j < 2 → ¬ S (g j)) (hg:∀ j,j < 2→GridIn W' F (g j) (L j)):GG F W' B g L:=
 ⟨hg,h.ok,h.ap.keeps k (h.lt (k:=0) (by omega)) (h.lt (k:=1) (by omega)) (hS 0 (by omega)) (hS 1 (by omega)),h.lo,fun j hj m hm=>h.mp j hj m (by rw [← k.block (g j) (h.lt hj) (hS j hj)];exact hm)⟩
theorem GG.nul {F:Nat→Prop} {W W':World} {B:Nat} {g:Nat→Nat} {L:Nat→List Cc} (h:GG F W B g L) (k:Kp W W' Nul):GG F W' B g L:=h.keep k (fun _ _ x=>x) (fun j hj=>(h.gi j hj).kp k)
theorem GG.far {F S:Nat→Prop} {W W':World} {B:Nat} {g:Nat→Nat} {L:Nat→List Cc} (h:GG F W B g L) (k:Kp W W' S) (hS:∀ i,F i → ¬ S i):GG F W' B g L:=h.keep k (fun j hj=>hS _ (h.gi j hj).1) (fun j hj=>(h.gi j hj).far k hS)
theorem GG.off {F:Nat→Prop} {W W':World} {B b:Nat} {g:Nat→Nat} {L:Nat→List Cc} {cs:Array Value} {ty:TypeId} (h:GG F W B g L) (k:Kp W W' (fun i=>i=b)) (hb:W.heap[b]? = some (.cells cs ty (0,0))) (hp:Plain cs):GG F W' B g L:=
 h.keep k (fun j hj e=>by
  have e':g j=b:=e
  obtain ⟨mv,hbk⟩:=(h.g0 hj).blk
  rw [e'] at hbk
  have q:=hb.symm.trans hbk
  injection q with q
  injection q with h1 _ _
  subst h1
  exact (hp 0 _ rfl).2 mv rfl) (fun j hj=>(h.gi j hj).off k hb hp)
theorem GG.apart {F:Nat→Prop} {W:World} {B:Nat} {g:Nat→Nat} {L:Nat→List Cc} (h:GG F W B g L) {k j:Nat} (hk:k < 2) (hj:j < 2) (hne:j≠k):Apart W (g k) (g j):=by
 have:(k=0∧j=1)∨(k=1∧j=0):=by omega
 rcases this with ⟨rfl,rfl⟩|⟨rfl,rfl⟩
 ·exact h.ap
 ·exact h.ap.symm
theorem GG.km {F:Nat→Prop} {W W':World} {B:Nat} {g:Nat→Nat} {L:Nat→List Cc} (h:GG F W B g L) (hB:B≤W.heap.size) {k:Nat} (hk:k < 2) (q:Km (g k) W W') {L':List Cc} (hg:GridIn W' F (g k) L') (ho:Ok17 L'):GG F W' B g (upd L k L'):=by
 obtain ⟨mv,bk⟩:=(h.g0 hk).blk
 have hoth:∀ j,j < 2→j≠k→GridIn W' F (g j) (L j)∧Apart W' (g k) (g j)∧W'.heap[g j]? = W.heap[g j]?:=fun j hj hne=>by
  have ha:=h.apart hk hj hne
  obtain ⟨mv',bj⟩:=(h.g0 hj).blk
  exact ⟨(h.gi j hj).other q bk ha,ha.step q (h.g0 hj),Km.cells q bj ha.1.symm⟩
 refine ⟨fun j hj=>?_,fun j hj=>?_,?_,h.lo,fun j hj m hm=>?_⟩
 ·by_cases e:j=k
  ·subst e;rw [upd_same];exact hg
  ·rw [upd_other _ _ e];exact (hoth j hj e).1
 ·by_cases e:j=k
  ·subst e;rw [upd_same];exact ho
  ·rw [upd_other _ _ e];exact h.ok j hj
 ·have:k=0∨k=1:=by omega
  rcases this with rfl|rfl
  ·exact (hoth 1 (by omega) (by omega)).2.1
  ·exact (hoth 0 (by omega) (by omega)).2.1.symm
 ·by_cases e:j=k
  ·subst e
   rcases q.own m hm with e1|e1
   ·exact h.mp j hj m e1
   ·omega
  ·rw [(hoth j hj e).2.2] at hm
   exact h.mp j hj m hm
theorem DD.nul {W W':World} {B:Nat} {r:Nat→Nat} {v:Nat→Value} {ys:Nat→List (Cc×Value)} (h:DD W B r v ys) (k:Kp W W' Nul):DD W' B r v ys:=⟨fun j hj=>(h.dg j hj).kp k,h.ne,h.lo⟩
theorem DD.km {W W':World} {B g:Nat} {r:Nat→Nat} {v:Nat→Value} {ys:Nat→List (Cc×Value)} (h:DD W B r v ys) (q:Km g W W') {mv:Option Nat} (hg:Blk W g [.map mv] 68):DD W' B r v ys:=⟨fun j hj=>(h.dg j hj).km q hg,h.ne,h.lo⟩
theorem DD.apart {W:World} {B:Nat} {r:Nat→Nat} {v:Nat→Value} {ys:Nat→List (Cc×Value)} (h:DD W B r v ys) {k j:Nat} (hk:k < 2) (hj:j < 2) (hne:j≠k):r j≠r k:=by
 have:(k=0∧j=1)∨(k=1∧j=0):=by omega
 rcases this with ⟨rfl,rfl⟩|⟨rfl,rfl⟩
 ·exact h.ne.symm
 ·exact h.ne
theorem plain_slice {p:Option Addr} {n c:Nat}:Plain #[.slice p n c]:=fun i v h=>by
 have e:v=.slice p n c:=by
  rcases Array.getElem?_eq_some_iff.1 h with ⟨hi,rfl⟩
  have:i=0:=by simp at hi;exact hi
  subst this
  rfl
 subst e
 exact ⟨(fun _ _ q=>nomatch q),(fun _ q=>nomatch q)⟩
theorem plain_ptrs {p q:Option Addr}:Plain #[.pointer p,.pointer q]:=fun i v h=>by
 have e:v=.pointer p∨v=.pointer q:=by
  rcases Array.getElem?_eq_some_iff.1 h with ⟨hi,rfl⟩
  have:i=0∨i=1:=by simp at hi;omega
  rcases this with rfl|rfl
  ·exact .inl rfl
  ·exact .inr rfl
 rcases e with e|e
 ·subst e;exact ⟨(fun _ _ q=>nomatch q),(fun _ q=>nomatch q)⟩
 ·subst e;exact ⟨(fun _ _ q=>nomatch q),(fun _ q=>nomatch q)⟩
theorem DG.plain {w:World} {B r:Nat} {v:Value} {ys:List (Cc×Value)} (h:DG w B r v ys):Plain #[v]:=by
 obtain ⟨p,c,rfl,_⟩:=h.pts.slice
 exact plain_slice
theorem DD.step {W W':World} {B:Nat} {r:Nat→Nat} {v:Nat→Value} {ys:Nat→List (Cc×Value)} (h:DD W B r v ys) {k:Nat} (hk:k < 2) (q:Kp W W' (fun i=>i=r k)) {v':Value} {ys':List (Cc×Value)} (hd:DG W' B (r k) v' ys'):DD W' B r (upd v k v') (upd ys k ys'):=by
 refine ⟨fun j hj=>?_,h.ne,h.lo⟩
 by_cases e:j=k
 ·subst e;rw [upd_same,upd_same];exact hd
 ·rw [upd_other _ _ e,upd_other _ _ e]
  exact (h.dg j hj).off q (h.dg k hk).box (h.dg k hk).plain (by decide) (h.apart hk hj e)
theorem PP.keep {W W':World} {B xw bg br:Nat} {g r:Nat→Nat} {S:Nat→Prop} (h:PP W B xw bg br g r) (k:Kp W W' S) (h1:¬ S xw) (h2:¬ S bg) (h3:¬ S br):PP W' B xw bg br g r:=⟨h.xs.kp k h1,h.gs.kp k h2,h.rs.kp k h3,h.lo⟩
theorem PP.nul {W W':World} {B xw bg br:Nat} {g r:Nat→Nat} (h:PP W B xw bg br g r) (k:Kp W W' Nul):PP W' B xw bg br g r:=h.keep k (fun x=>x) (fun x=>x) (fun x=>x)
theorem PP.km {W W':World} {B xw bg br o:Nat} {g r:Nat→Nat} (h:PP W B xw bg br g r) (q:Km o W W') {mv:Option Nat} (ho:Blk W o [.map mv] 68):PP W' B xw bg br g r:=⟨q.blk h.xs (Blk.ne h.xs ho (by decide)),q.blk h.gs (Blk.ne h.gs ho (by decide)),q.blk h.rs (Blk.ne h.rs ho (by decide)),h.lo⟩
theorem PP.off {W W':World} {B xw bg br o:Nat} {g r:Nat→Nat} {v:Value} (h:PP W B xw bg br g r) (q:Kp W W' (fun i=>i=o)) (ho:Blk W o [v] 31):PP W' B xw bg br g r:=h.keep q (Blk.ne h.xs ho (by decide)) (Blk.ne h.gs ho (by decide)) (Blk.ne h.rs ho (by decide))
theorem PlayS.nul {W W':World} {B xw bg br:Nat} {g r:Nat→Nat} {L K:Nat→List Cc} {v:Nat→Value} {ys:Nat→List (Cc×Value)} (h:PlayS W B xw bg br g r L K v ys) (k:Kp W W' Nul):PlayS W' B xw bg br g r L K v ys:=⟨h.gg.nul k,h.dd.nul k,h.pp.nul k,h.kk⟩
theorem GG.old {F:Nat→Prop} {W W':World} {B:Nat} {g:Nat→Nat} {L:Nat→List Cc} (h:GG F W B g L) {k:Nat} (hk:k < 2) (q:Km (g k) W W'):Kp W W' (fun i=>B≤i):=q.kp.mono (fun i _ e=>by
 rcases e with e|⟨e,_⟩
 ·have:=h.lo k hk
  have e':i=g k:=e
  show B≤i
  omega
 ·exact h.mp k hk i e)
mutual
theorem cpy_txt:∀ t:Nd,t.txt→(cpy t).txt
 | .mk h ts,q=>by
  rw [Nd.txt] at q
  rw [cpy,Nd.txt]
  exact ⟨q.1,cpyL_txt ts q.2⟩
theorem cpyL_txt:∀ ts:List Nd,txtL ts→txtL (cpyL ts)
 | [],_=>by rw [cpyL,txtL];trivial
 | t :: ts,q=>by
  rw [txtL] at q
  rw [cpyL,txtL]
  exact ⟨cpy_txt t q.1,cpyL_txt ts q.2⟩
end
def Tx (c:Ct):Prop:=c.t.txt∧c.v.s.size≤140737488355328
theorem Tx.cp {c:Ct} (h:Tx c):Tx (cpC c):=⟨cpy_txt _ h.1,h.2⟩
theorem Tx.zero:Tx ct0:=by
 refine ⟨?_,by decide⟩
 show zNd.txt
 unfold zNd
 rw [Nd.txt]
 exact ⟨by decide,by rw [txtL];trivial⟩
theorem rpK_tx {V:Bool} {K:List Cc} {lo:Nat} {c s:Int} {ct:Ct} (h:∀ x∈K,Tx x.2) (hc:Tx ct):∀ x∈rpK V K lo c s ct,Tx x.2:=fun x hx=>by
 unfold rpK at hx
 split at hx
 ·unfold insK at hx
  rw [List.mem_append,List.mem_append] at hx
  rcases hx with q|q|q
  ·exact h x (List.mem_of_mem_take q)
  ·unfold midC at q
   split at q
   ·simp at q
   ·rw [List.mem_singleton] at q
    subst q
    exact hc.cp
  ·exact h x (List.mem_of_mem_drop q)
 ·exact h x hx
theorem KK.step {L K:Nat→List Cc} {ys:Nat→List (Cc×Value)} (h:KK L K ys) {k:Nat} {L' K':List Cc} {ys':List (Cc×Value)} (ha:Al L' K') (hy:ys'.map (·.1)=K') (ht:∀ x∈K',Tx x.2):KK (upd L k L') (upd K k K') (upd ys k ys'):=by
 refine ⟨fun j hj=>?_,fun j hj=>?_,fun j hj=>?_⟩
 ·by_cases e:j=k
  ·subst e;rw [upd_same,upd_same];exact ha
  ·rw [upd_other _ _ e,upd_other _ _ e];exact h.al j hj
 ·by_cases e:j=k
  ·subst e;rw [upd_same,upd_same];exact hy
  ·rw [upd_other _ _ e,upd_other _ _ e];exact h.ks j hj
 ·by_cases e:j=k
  ·subst e;rw [upd_same];exact ht
  ·rw [upd_other _ _ e];exact h.tx j hj
end Go.Proofs.YtlppcfeakakpfaaGreatDoor
