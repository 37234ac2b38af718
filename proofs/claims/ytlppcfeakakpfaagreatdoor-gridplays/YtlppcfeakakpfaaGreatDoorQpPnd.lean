/- The program's Put beside the document's: its error, and the two lists of cells. The document's grid beside the program's: places, what outlives what. The document's grid: Get (quadrilleref17). The document's grid: Clone (quadrilleref17). The document's grid: Bounds (quadrilleref17). The document's grid: In (quadrilleref17). addr.Cells' own function tells any area's cells, row by row: after move/Mym's cells12_own. The document's Puts as a list (plain). No function of the program here. Bounds of any grid: the document's. -/
import Derived.Test.YtlppcfeakakpfaaGreatDoorQpPnc
set_option maxRecDepth 100000
set_option maxHeartbeats 16000000
namespace Go.Proofs.YtlppcfeakakpfaaGreatDoor
open Go.RowKit Go.Maps Go.Sort Go.Lib Go.Shelf
structure Al (L K:List Cc):Prop where
 st:Strict (K.map (·.1))
 mem:∀ x,x∈K ↔ x∈L
 len:K.length=L.length
theorem Al.nil:Al [] []:=⟨List.Pairwise.nil,fun _=>Iff.rfl,rfl⟩
theorem nodup_strict {K:List Cc} (h:Strict (K.map (·.1))):K.Nodup:=by
 unfold Strict at h
 rw [List.pairwise_map] at h
 exact h.imp fun {a b} hab e=>by rw [e,cfA_irr] at hab;cases hab
theorem nodup_once {L:List Cc} (h:L.Pairwise (fun x y=>x.1≠y.1)):L.Nodup:=h.imp fun hab e=>hab (congrArg Prod.fst e)
theorem al_ins {L L' K:List Cc} {k:Int×Int} {lo:Nat} (ha:Al L K) (hp:Place K k lo) (mid:List Cc) (hm:mid=[]∨∃ a,mid=[(k,a)]) (ho:L'.Pairwise (fun x y=>x.1≠y.1)) (hx:∀ x,x∈L' ↔ (x∈L∧x.1≠k)∨x∈mid):Al L' (insK K k lo mid):=by
 have hs:=ins_strict hp ha.st mid hm
 have hmm:∀ x,x∈insK K k lo mid ↔ x∈L':=fun x=>by rw [ins_mem hp ha.st,hx,ha.mem]
 exact ⟨hs,hmm,((List.perm_ext_iff_of_nodup (nodup_strict hs) (nodup_once ho)).2 hmm).length_eq⟩
def rpK (V:Bool) (K:List Cc) (lo:Nat) (c s:Int) (ct:Ct):List Cc:=if rpE V K lo c s ct=0 then insK K (c,s) lo (midC c s ct) else K
theorem mid_form (c s:Int) (ct:Ct):midC c s ct=[]∨∃ a,midC c s ct=[((c,s),a)]:=by
 unfold midC
 split
 ·exact .inl rfl
 ·exact .inr ⟨_,rfl⟩
theorem put_err (G:Nat→Prop) (g:Nat) (c r:Int) (ct:Ct) (sl:Value) (F:Nat→Prop) (L K:List Cc) (lo:Nat) (w:World) (hG:GridIn w G g L) (hnew:∀ i,w.heap.size≤i→G i) (hL:Ok17 L) (ha:Al L K) (hp:Place K (c,r) lo) (hok:ct.t.ok) (hx:ct.v.x < 18446744073709551616) (hin:NdIn w F sl ct.t) (U:VS w) :
  Calls Tryz.prog 10 #[.pointer (some ⟨g,0,none⟩),.agg #[.int .i64 c,.int .i64 r],ct.val sl] w fun e w'=>∃ L',e=.returned (.int .i64 (rpE (gv ct) K lo c r ct:Nat))∧GridIn w' G g L'∧Ok17 L'∧Al L' (rpK (gv ct) K lo c r ct)∧Km g w w':=by
 have h:GI 0 w g L:=GridIn.mono hG (fun _ _=>Nat.zero_le _)
 obtain ⟨mv,bg⟩:=h.blk
 have hval:∀ V,gv ct=V→∀ wq,Kp w wq Nul→Calls Tryz.prog 34 #[ct.val sl] wq fun e w'=>e=.returned (.bool V)∧Kp wq w' Nul:=fun V hV wq k=>by subst hV;exact gv_at ct sl F wq hok (hin.kp k (fun _ _ x=>x)) (U.kp k)
 have hno:∀ w' (er:Nat),Kp w w' Nul→er≠0→rpE (gv ct) K lo c r ct=er→∃ L',Ending.returned (.int .i64 (er:Int))=.returned (.int .i64 (rpE (gv ct) K lo c r ct:Nat))∧GridIn w' G g L'∧Ok17 L'∧Al L' (rpK (gv ct) K lo c r ct)∧Km g w w':=fun w' er k h0 he=>by
  have e2:rpK (gv ct) K lo c r ct=K:=if_neg (by rw [he];exact h0)
  rw [e2,he]
  exact ⟨L,rfl,hG.kp k,hL,ha,Km.of_nul k bg.lt⟩
 cases hV:gv ct with
 | false=>
  refine (put_no g c r ct sl false w (fun e=>by cases e) (hval false hV)).mono ?_
  rintro e w' ⟨rfl,k⟩
  have:=hno w' 1 k (by decide) (by rw [hV];exact rpE_1)
  rw [hV] at this
  exact this
 | true=>
  cases hC:vC c r with
  | false=>
   refine (put_no g c r ct sl true w (fun _=>hC) (hval true hV)).mono ?_
   rintro e w' ⟨rfl,k⟩
   have:=hno w' 20 k (by decide) (by rw [hV];exact rpE_20 hC)
   rw [hV] at this
   exact this
  | true=>
   by_cases hk:ct.k=0
   ·refine (put_dm G g c r hC ct hk sl L w hG (hval true hV)).mono ?_
    rintro e w' ⟨rfl,h1,h2⟩
    have e0:rpE true K lo c r ct=0:=rpE_0 hC (fun q=>q.1 hk)
    have e1:rpK true K lo c r ct=insK K (c,r) lo (midC c r ct):=if_pos e0
    rw [e0,e1]
    refine ⟨_,rfl,h1,hL.del _,al_ins ha hp _ (mid_form c r ct) (show GI 0 w' g _ from GridIn.mono h1 (fun _ _=>Nat.zero_le _)).once (fun x=>?_),h2⟩
    have e2:midC c r ct=[]:=if_pos hk
    rw [delL_mem,e2]
    simp
   ·by_cases hroom:L.length < 4096∨∃ c',((c,r),c')∈L
    ·have hs:=gv_size hV
     refine (put_m G g c r hC ct hk sl L w h hG hnew hL.len hroom (hval true hV) (fun wq k=>(gCopy_at ct sl F wq hx hs hok (hin.kp k (fun _ _ x=>x))).mono (by
      rintro e w' ⟨sl',fp,h1,h2,h3⟩
      exact ⟨sl',fp,h1,h2,Kp.of_below h3⟩))).mono ?_
     rintro e w' ⟨rfl,h1,h2⟩
     have e0:rpE true K lo c r ct=0:=rpE_0 hC (fun q=>by
      rcases hroom with q1|⟨c',q1⟩
      ·have:=ha.len;omega
      ·have:=(isK_iff hp ha.st).2 ⟨c',(ha.mem _).2 q1⟩
       rw [q.2.1] at this
       cases this)
     have e1:rpK true K lo c r ct=insK K (c,r) lo (midC c r ct):=if_pos e0
     rw [e0,e1]
     refine ⟨_,rfl,h1,hL.put h.once hC (Gd.of hV hk hok hx hs) hroom,al_ins ha hp _ (mid_form c r ct) (show GI 0 w' g _ from GridIn.mono h1 (fun _ _=>Nat.zero_le _)).once (fun x=>?_),h2⟩
     have e2:midC c r ct=[((c,r),cpC ct)]:=if_neg hk
     rw [putL_mem,e2,List.mem_singleton]
     exact Or.comm
    ·have hfull:4096≤L.length:=by
      rcases Nat.lt_or_ge L.length 4096 with q|q
      ·exact absurd (.inl q) hroom
      ·exact q
     refine (put_full 0 g c r hC ct hk sl L w h hfull (fun c' q=>hroom (.inr ⟨c',q⟩)) (hval true hV)).mono ?_
     rintro e w' ⟨rfl,k⟩
     have:=hno w' 41 k (by decide) (by
      rw [hV]
      refine rpE_41 hC hk ?_ (by rw [ha.len];exact hfull)
      cases hi:isK K lo (c,r) with
      | false=>rfl
      | true=>
       obtain ⟨a,q⟩:=(isK_iff hp ha.st).1 hi
       exact absurd (.inr ⟨a,(ha.mem _).1 q⟩) hroom)
     rw [hV] at this
     exact this
theorem place_ex (k:Int×Int):∀ {K:List Cc},Strict (K.map (·.1))→∃ lo,Place K k lo
 | [],_=>⟨0,Nat.le_refl _,fun j x hx _=>by simp at hx,fun j x hx _=>by simp at hx⟩
 | x :: K,hs=>by
  have hs':=hs
  unfold Strict at hs
  rw [List.map_cons,List.pairwise_cons] at hs
  cases hx:ltOf cfA x.1 k with
  | false=>
   refine ⟨0,Nat.zero_le _,fun j y _ h=>by omega,fun j y hy _=>?_⟩
   cases j with
   | zero=>
    rw [List.getElem?_cons_zero] at hy
    injection hy with hy
    rw [← hy]
    exact hx
   | succ j=>
    rw [List.getElem?_cons_succ] at hy
    have h1:=hs.1 y.1 (List.mem_map.2 ⟨y,List.mem_of_getElem? hy,rfl⟩)
    cases hq:ltOf cfA y.1 k with
    | false=>rfl
    | true=>rw [cfA_trans h1 hq] at hx;cases hx
  | true=>
   obtain ⟨lo,h1,h2,h3⟩:=place_ex k (K:=K) hs.2
   refine ⟨lo+1,by rw [List.length_cons];omega,fun j y hy hj=>?_,fun j y hy hj=>?_⟩
   ·cases j with
    | zero=>
     rw [List.getElem?_cons_zero] at hy
     injection hy with hy
     rw [← hy]
     exact hx
    | succ j=>
     rw [List.getElem?_cons_succ] at hy
     exact h2 j y hy (by omega)
   ·cases j with
    | zero=>omega
    | succ j=>
     rw [List.getElem?_cons_succ] at hy
     exact h3 j y hy (by omega)
theorem Place.uniq {K:List Cc} {k:Int×Int} {a b:Nat} (ha:Place K k a) (hb:Place K k b):a=b:=by
 rcases Nat.lt_trichotomy a b with h|h|h
 ·have hl:a < K.length:=Nat.lt_of_lt_of_le h hb.le
  have e:=List.getElem?_eq_getElem hl
  have h1:=hb.lt a _ e h
  rw [ha.ge a _ e (Nat.le_refl _)] at h1
  cases h1
 ·exact h
 ·have hl:b < K.length:=Nat.lt_of_lt_of_le h ha.le
  have e:=List.getElem?_eq_getElem hl
  have h1:=ha.lt b _ e h
  rw [hb.ge b _ e (Nat.le_refl _)] at h1
  cases h1
theorem DG.km {w w':World} {B r g:Nat} {v:Value} {ys:List (Cc×Value)} (h:DG w B r v ys) (k:Km g w w') {mv:Option Nat} (hg:Blk w g [.map mv] 68):DG w' B r v ys:=
 ⟨k.blk h.box (Blk.ne h.box hg (by decide)),h.pts.km k hg⟩
def zCt:Ct:=⟨0,⟨0,0,⟨#[]⟩,false,0⟩,zNd⟩
def gtL (K:List Cc) (lo:Nat) (k:Int×Int):Ct:=match K[lo]? with|none=>zCt|some x=>if x.1=k then cpC x.2 else zCt
theorem gtL_no {K:List Cc} {lo:Nat} {k:Int×Int} (h:isK K lo k=false):gtL K lo k=zCt:=by
 unfold isK at h
 unfold gtL
 split
 ·rfl
 ·rename_i x hx
  rw [hx] at h
  rw [if_neg (of_decide_eq_false h)]
theorem gtL_yes {K:List Cc} {lo:Nat} {k:Int×Int} (h:isK K lo k=true):∃ x,K[lo]? = some x∧gtL K lo k=cpC x.2:=by
 unfold isK at h
 unfold gtL
 split
 ·rename_i hx;rw [hx] at h;cases h
 ·rename_i x hx
  rw [hx] at h
  exact ⟨x,hx,if_pos (of_decide_eq_true h)⟩
theorem c21_0:([.int .i64 0,.int .i64 0,.float .f64 0,.string ⟨#[]⟩,.bool false,.int .i64 0,.int .i64 0,.int .i64 0,.float .f64 0,.string ⟨#[]⟩,.bool false,.int .i64 0,.int .i64 0,.int .i64 0,.bool false,.bool false,.int .i64 0,.int .i64 0,.bool false,.bool false,.slice none 0 0]:List Value).toArray.all (·.oneCell')=true:=Ct.one zCt rfl
theorem ct_all (a:Ct) {sl:Value} (h:sl.oneCell'=true):(a.cells sl).toArray.all (·.oneCell')=true:=Ct.one a h
theorem rget_at (B r:Nat) (v:Value) (ys:List (Cc×Value)) (K:List Cc) (c s:Int) (w:World) (hd:DG w B r v ys) (hK:ys.map (·.1)=K) (hn4:K.length≤4096) (hs:Strict (K.map (·.1))) (hok:∀ x∈K,x.2.v.x < 18446744073709551616∧x.2.t.size≤1048576∧x.2.t.ok) :
  Calls Tryz.prog 22 #[.pointer (some ⟨r,0,none⟩),.agg #[.int .i64 c,.int .i64 s]] w fun e w'=>∃ lo sl fp,Place K (c,s) lo∧e=.returned ((gtL K lo (c,s)).val sl)∧Own w' w.heap.size sl (gtL K lo (c,s)).t fp∧Kp w w' Nul:=by
 obtain ⟨p,cp,rfl,hp⟩:=hd.pts.slice
 obtain ⟨n,hn⟩:∃ n,ys.length=n:=⟨_,rfl⟩
 have hKn:K.length=n:=by rw [← hK,List.length_map,hn]
 obtain ⟨W,hW⟩:∃ W,(w.alloc (.cells #[.int .i64 c,.int .i64 s] 36)).alloc (.cells #[.int .i64 0,.int .i64 0,.float .f64 0,.string ⟨#[]⟩,.bool false,.int .i64 0,.int .i64 0,.int .i64 0,.float .f64 0,.string ⟨#[]⟩,.bool false,.int .i64 0,.int .i64 0,.int .i64 0,.bool false,.bool false,.int .i64 0,.int .i64 0,.bool false,.bool false,.slice none 0 0] 46)=W:=⟨_,rfl⟩
 have HW:Hid ((w.alloc (.cells #[.int .i64 c,.int .i64 s] 36)).alloc (.cells #[.int .i64 0,.int .i64 0,.float .f64 0,.string ⟨#[]⟩,.bool false,.int .i64 0,.int .i64 0,.int .i64 0,.float .f64 0,.string ⟨#[]⟩,.bool false,.int .i64 0,.int .i64 0,.int .i64 0,.bool false,.bool false,.int .i64 0,.int .i64 0,.bool false,.bool false,.slice none 0 0] 46)=W):=hW
 have kW:Kp w W Nul:=by rw [← hW];exact ((Kp.refl _ _).alloc _).alloc _
 have HA:Hid (Blk W w.heap.size [.int .i64 c,.int .i64 s] 36):=by show Blk _ _ _ _;rw [← hW];exact (Blk.new w _ _).alloc _
 have HB:Hid (Blk W (w.heap.size+1) [.int .i64 0,.int .i64 0,.float .f64 0,.string ⟨#[]⟩,.bool false,.int .i64 0,.int .i64 0,.int .i64 0,.float .f64 0,.string ⟨#[]⟩,.bool false,.int .i64 0,.int .i64 0,.int .i64 0,.bool false,.bool false,.int .i64 0,.int .i64 0,.bool false,.bool false,.slice none 0 0] 46):=by
  show Blk _ _ _ _
  have h:=Blk.new (w.alloc (.cells #[.int .i64 c,.int .i64 s] 36)) [.int .i64 0,.int .i64 0,.float .f64 0,.string ⟨#[]⟩,.bool false,.int .i64 0,.int .i64 0,.int .i64 0,.float .f64 0,.string ⟨#[]⟩,.bool false,.int .i64 0,.int .i64 0,.int .i64 0,.bool false,.bool false,.int .i64 0,.int .i64 0,.bool false,.bool false,.slice none 0 0] 46
  rw [World.size_alloc] at h
  rw [← hW]
  exact h
 have HS:Hid (∀ wq,Kp w wq Nul→wq.cell? ⟨r,0,none⟩=some (.slice p n cp)):=fun wq k=>by
  have:=(hd.box.kp k (fun x=>x)).cell (i:=0) rfl
  rw [hn] at this
  exact this
 have HR:Hid (∀ (i:Nat) x,K[i]? = some x→∃ b sl,p=some ⟨b,0,none⟩∧i < n∧(∀ wq,Kp w wq Nul→wq.rangeAt b (i * 23) [.int .i64 x.1.1,.int .i64 x.1.2]∧wq.rangeAt b (i * 23+2) (x.2.cells sl)∧NdIn wq (fun _=>True) sl x.2.t)):=fun i x hx=>by
  have hi:i < ys.length:=by have:=(List.getElem?_eq_some_iff.1 hx).1;rw [hKn] at this;omega
  obtain ⟨b,e,_,hrow⟩:=hp (by omega)
  have hy:ys[i]? = some ys[i]:=List.getElem?_eq_getElem hi
  have ex:x=ys[i].1:=by
   rw [← hK,List.getElem?_map,hy,Option.map_some] at hx
   exact (Option.some.inj hx).symm
  refine ⟨b,ys[i].2,e,by omega,fun wq k=>?_⟩
  have h1:=pt_parts (rangeAt_kp (hrow i ys[i] hy) k (fun x=>x))
  rw [ex]
  exact ⟨h1.1,h1.2,(hd.pts.tree _ (List.getElem_mem hi)).kp k (fun _ _ x=>x)⟩
 have HPl:Hid (Calls Tryz.prog 44 #[.pointer (some ⟨r,0,none⟩),.agg #[.int .i64 c,.int .i64 s]] W fun e w'=>(∃ lo,e=.returned (.tuple #[.int .i64 (lo:Nat),.bool (isK K lo (c,s))])∧Place K (c,s) lo)∧Kp W w' Nul):=place_at r n cp p K c s W hKn (by omega) hs (fun wq k=>HS.out wq (kW.trans k)) (fun i x hx=>by
  obtain ⟨b,sl,e,_,h⟩:=HR.out i x hx
  exact ⟨b,e,fun wq k=>(h wq (kW.trans k)).1⟩)
 have HKW:Hid (Kp w W Nul):=kW
 have HOK:Hid (∀ x∈K,x.2.v.x < 18446744073709551616∧x.2.t.size≤1048576∧x.2.t.ok):=hok
 have HRA:Hid (W.rangeAt w.heap.size 0 [.int .i64 c,.int .i64 s]):=HA.out.all
 have HN:Hid (n≤4096):=by show _≤_;omega
 clear hd hp hn hK hKn hW kW hs hok hn4
 go_enter Tryz.func22,Tryz.ntmps22
 go_wp2_with (first|(rw [HW.out])|(refine wpList_load_mid rfl 36 (.tmp 3) rfl w.heap.size 0 rfl [.int .i64 c,.int .i64 s] _ HRA.out Tryz.underlying36 rfl infoAddr2 ?_)|fail)
 refine HPl.out.mono ?_
 rintro e w1 ⟨⟨lo,rfl,hlo⟩,k1⟩
 have HLo:Hid (Place K (c,s) lo):=hlo
 have HK1:Hid (Kp W w1 Nul):=k1
 have HB1:Hid (Blk w1 (w.heap.size+1) _ 46):=HB.out.kp k1 (fun x=>x)
 clear hlo k1 HPl HRA HA
 cases hi:isK K lo (c,s) with
 | false=>
  have e0:=gtL_no hi
  have HF:Hid (∀ Y,Kp w1 Y (fun i=>i=w.heap.size+1)→∃ lo sl fp,Place K (c,s) lo∧Ending.returned (Value.agg #[.int .i64 0,.int .i64 0,.float .f64 0,.string ⟨#[]⟩,.bool false,.int .i64 0,.int .i64 0,.int .i64 0,.float .f64 0,.string ⟨#[]⟩,.bool false,.int .i64 0,.int .i64 0,.int .i64 0,.bool false,.bool false,.int .i64 0,.int .i64 0,.bool false,.bool false,.slice none 0 0])=.returned ((gtL K lo (c,s)).val sl)∧Own Y w.heap.size sl (gtL K lo (c,s)).t fp∧Kp w Y Nul):=fun Y k=>⟨lo,.slice none 0 0,[],HLo.out,by rw [e0];rfl,by rw [e0];exact Own.nil _ _ _,(HKW.out.trans HK1.out).trans' k (fun i hi e=>by have e':i=w.heap.size+1:=e;omega)⟩
  clear hi e0 HR HS HOK
  go_wp2_with (first|(refine wpList_store_blk rfl 46 (.tmp 4) (.tmp 15) rfl (w.heap.size+1) _ [.int .i64 0,.int .i64 0,.float .f64 0,.string ⟨#[]⟩,.bool false,.int .i64 0,.int .i64 0,.int .i64 0,.float .f64 0,.string ⟨#[]⟩,.bool false,.int .i64 0,.int .i64 0,.int .i64 0,.bool false,.bool false,.int .i64 0,.int .i64 0,.bool false,.bool false,.slice none 0 0] 46 HB1.out rfl rfl rfl infoContent c21_0 ?_;intro Y hbY hkY)|fail)
  refine bodyPost_ret (results_cell_row rfl _ _ (w.heap.size+1) 46 _ (0,0) _ rfl hbY Tryz.underlying46 rfl infoContent) rfl ?_
  exact HF.out Y hkY
 | true=>
  obtain ⟨x,hx,e0⟩:=gtL_yes hi
  have HE0:Hid (gtL K lo (c,s)=cpC x.2):=e0
  obtain ⟨b,sl,rfl,hln,hr⟩:=HR.out lo x hx
  obtain ⟨h1,h2,h3⟩:=HOK.out x (List.mem_of_getElem? hx)
  have hq:=hr w1 (HKW.out.trans HK1.out)
  have HRc:Hid (w1.rangeAt b (lo * 23+2) (x.2.cells sl)):=hq.2.1
  have HCp:Hid (Calls Tryz.prog 45 #[.agg (x.2.cells sl).toArray] w1 fun e w'=>∃ sl' fp,e=.returned ((cpC x.2).val sl')∧Own w' w1.heap.size sl' (cpC x.2).t fp∧Kp w1 w' Nul):=(rcCopy_at x.2 sl (fun _=>True) w1 h1 h2 h3 hq.2.2).mono (by
   rintro e w' ⟨sl',fp,g1,g2,g3⟩
   exact ⟨sl',fp,g1,g2,Kp.of_below g3⟩)
  have s1:=HS.out w1 (HKW.out.trans HK1.out)
  have hl0:(0:Int)≤(lo:Int):=by omega
  have hln':(lo:Int) < (n:Int):=by omega
  have hln4:(lo:Int)≤4096:=by have:=HN.out;omega
  clear hi hx e0 HR HS HOK hr h1 h2 h3 hq hln
  go_wp2_with (first|(refine wpList_load_mid rfl 46 (.tmp 22) rfl b (lo * 23+2) rfl (x.2.cells sl) _ HRc.out Tryz.underlying46 rfl infoContent ?_)|fail)
  refine HCp.out.mono ?_
  rintro e w2 ⟨sl',fp,rfl,g2,g3⟩
  have HB2:Hid (Blk w2 (w.heap.size+1) _ 46):=HB1.out.kp g3 (fun x=>x)
  have HO1:Hid (sl'.oneCell'=true):=g2.own.one
  have hsz:W.heap.size≤w1.heap.size:=HK1.out.size
  have hWs:w.heap.size+1 < W.heap.size:=HB.out.lt
  have HF:Hid (∀ Y,Kp w2 Y (fun i=>i=w.heap.size+1)→∃ lo sl fp,Place K (c,s) lo∧Ending.returned (Value.agg ((cpC x.2).cells sl').toArray)=.returned ((gtL K lo (c,s)).val sl)∧Own Y w.heap.size sl (gtL K lo (c,s)).t fp∧Kp w Y Nul):=fun Y k=>⟨lo,sl',fp,HLo.out,by rw [HE0.out],by rw [HE0.out];exact (g2.kp k (fun b hb e=>by have e':b=w.heap.size+1:=e;have:=(g2.new b hb).1;omega)).le (by omega),((HKW.out.trans HK1.out).trans g3).trans' k (fun i hi e=>by have e':i=w.heap.size+1:=e;omega)⟩
  clear HE0
  generalize cpC x.2=ct at *
  clear g2 g3 HCp HRc s1 hsz hWs
  have HO2:=ct_all ct HO1.out
  go_wp2_with (first|(refine wpList_store_blk rfl 46 (.tmp 4) (.tmp 24) rfl (w.heap.size+1) _ (ct.cells sl') 46 HB2.out rfl rfl rfl infoContent HO2 ?_;intro Y hbY hkY)|fail)
  refine bodyPost_ret (results_cell_row rfl _ _ (w.heap.size+1) 46 _ (0,0) _ rfl hbY Tryz.underlying46 rfl infoContent) rfl ?_
  exact HF.out Y hkY
theorem rclone_at (B r:Nat) (v:Value) (ys:List (Cc×Value)) (w:World) (hd:DG w B r v ys) (hn4:ys.length≤4096) :
  Calls Tryz.prog 27 #[.pointer (some ⟨r,0,none⟩)] w fun e w'=>∃ r' v',e=.returned (.pointer (some ⟨r',0,none⟩))∧w.heap.size≤r'∧DG w' w.heap.size r' v' ys∧Kp w w' Nul:=by
 obtain ⟨i0,hi,hz0,hz1,hz2⟩:=infoPutI
 obtain ⟨W,hW⟩:∃ W,w.alloc (.cells #[] 84)=W:=⟨_,rfl⟩
 have HW:Hid (w.alloc (.cells #[] 84)=W):=hW
 have kW:Kp w W Nul:=by rw [← hW];exact (Kp.refl _ _).alloc _
 have hb:W.heap[w.heap.size]? = some (.cells #[] 84 (0,0)):=by rw [← hW];exact World.alloc_heap_new w _
 have HOW:Hid (W.ownsRow w.heap.size 84 23 (.slice (some ⟨w.heap.size,0,none⟩) 0 0) 0 []):=⟨rfl,.inr ⟨w.heap.size,0,#[],rfl,Nat.le_refl _,hb,Nat.le_refl _,Nat.zero_le _,rfl,rfl⟩⟩
 have HDG:Hid (∀ wq,Kp w wq Nul→DG wq B r v ys):=fun wq k=>hd.kp k
 have HKW:Hid (Kp w W Nul):=kW
 have HT:Hid (∀ wq,Kp w wq Nul→∀ y∈ys,NdIn wq (fun _=>True) y.2 y.1.2.t):=fun wq k=>(hd.kp k).pts.tree
 have HN:Hid (ys.length≤4096):=hn4
 have HSz:Hid (w.heap.size < W.heap.size):=by show _ < _;rw [← hW,World.size_alloc];omega
 have hFin:∀ (v':Value) (w4:World),Kp w w4 Nul→w4.ownsRow w.heap.size 84 23 v' ys.length (rowP ys)→DG (w4.alloc (.cells #[v'] 31)) w.heap.size w4.heap.size v' ys∧w.heap.size≤w4.heap.size∧Kp w (w4.alloc (.cells #[v'] 31)) Nul:=fun v' w4 k h=>⟨⟨Blk.new w4 [v'] _,h.alloc _,(HT.out _ (k.alloc _))⟩,k.size,k.alloc _⟩
 have HFin:Hid (∀ (v':Value) (w4:World),Kp w w4 Nul→w4.ownsRow w.heap.size 84 23 v' ys.length (rowP ys)→DG (w4.alloc (.cells #[v'] 31)) w.heap.size w4.heap.size v' ys∧w.heap.size≤w4.heap.size∧Kp w (w4.alloc (.cells #[v'] 31)) Nul):=hFin
 rcases hd.pts.row.2 with ⟨rfl,h0⟩|⟨b,cq,cur,rfl,hbB,hbb,hcq,_⟩
 ·have hy:ys=[]:=List.eq_nil_of_length_eq_zero h0
  subst hy
  have s0:W.cell? ⟨r,0,none⟩=some (.slice none 0 0):=(hd.box.kp kW (fun x=>x)).cell (i:=0) rfl
  have HAP:Hid ((Builtin.append_ #[29,29] 29 #[.slice (some ⟨w.heap.size,0,none⟩) 0 0,.slice none 0 0]).run Tryz.prog W=.ok (.slice (some ⟨w.heap.size,0,none⟩) 0 0) W):=run_append_nothing W _ _ _ 84 i0 Tryz.underlying29 hi (some ⟨w.heap.size,0,none⟩) 0 0 (Nat.le_refl _) _ (Src.ofNil W Tryz.underlying29 0)
  clear hd hFin hW kW hb h0 hn4
  go_enter Tryz.func27,Tryz.ntmps27
  go_wp2_with (first
   | (rw [HW.out])
   | (at_builtin;refine wpList_append_eq' rfl (.tmp 3) (.tmp 7) 29 29 rfl (.slice (some ⟨w.heap.size,0,none⟩) 0 0) (.slice none 0 0) (.slice (some ⟨w.heap.size,0,none⟩) 0 0) W rfl rfl (by with_reducible exact HAP.out) ?_)
   | fail)
  go_ret
  have h:=HFin.out _ W HKW.out HOW.out
  exact ⟨_,_,rfl,h.2.1,h.1,h.2.2⟩
 ·have s0:W.cell? ⟨r,0,none⟩=some (.slice (some ⟨b,0,none⟩) ys.length cq):=(hd.box.kp kW (fun x=>x)).cell (i:=0) rfl
  have HCells:Hid (∀ wq,Kp w wq Nul→∀ j u,(rowP ys)[j]? = some u→wq.cell? ⟨b,j,none⟩=some u):=fun wq k j u hj=>by
   have h:=(HDG.out wq k).pts.row.cells (g:=b) rfl j u hj
   rw [addr_at,Nat.zero_add] at h
   exact h
  have HOne:Hid (∀ u∈rowP ys,u.oneCell'=true):=rowP_one hd.pts.tree
  clear hd hFin hW kW hb hn4 hbB hbb hcq
  go_enter Tryz.func27,Tryz.ntmps27
  go_wp2_with (first
   | (rw [HW.out])
   | (at_builtin;refine wpList_append_own _ rfl (.tmp 3) (.tmp 7) 29 rfl w.heap.size 84 i0 _ 23 200 Tryz.underlying29 hi hz0 hz1 hz2 rfl (by decide) _ _ _ rfl HOW.out ⟨b,0,none⟩ ys.length cq (rowP ys) rfl ?n1 ?n2 ?n3 ?n4 ?n5 ?n6 ?_)
   | fail)
  case n1=>rw [rowP_len]
  case n2=>
   intro j u hj
   rw [addr_at,Nat.zero_add]
   exact HCells.out _ HKW.out j u hj
  case n3=>exact HOne.out
  case n4=>have:=HN.out;unfold maxLen;omega
  case n5=>have:=HN.out;omega
  case n6=>exact HKW.out.size
  ·intro v4 w4 hown4 hgrow4 _
   have K4:Hid (Kp w w4 Nul):=HKW.out.trans' (Kp.of_grown hgrow4 (fun i hi=>by show i=w.heap.size;injection hi with hi;exact hi.symm)) (fun i hi e=>by have e':i=w.heap.size:=e;omega)
   (try rw [Nat.zero_add] at hown4)
   (try rw [List.nil_append] at hown4)
   obtain ⟨p4,n4,c4,rfl⟩:∃ p n c,v4=.slice p n c:=by
    rcases hown4.2 with ⟨rfl,_⟩|⟨g,c,cur,rfl,_⟩
    ·exact ⟨_,_,_,rfl⟩
    ·exact ⟨_,_,_,rfl⟩
   have HO4:Hid (w4.ownsRow w.heap.size 84 23 (.slice p4 n4 c4) ys.length (rowP ys)):=hown4
   clear hown4 hgrow4 s0 HCells HOne HOW HW
   go_wp2_with fail
   go_ret
   have h:=HFin.out _ w4 K4.out HO4.out
   exact ⟨_,_,rfl,h.2.1,h.1,h.2.2⟩
def bndS (a:(Int×Int)×(Int×Int)) (k:Int×Int):(Int×Int)×(Int×Int):=((min a.1.1 k.1,min a.1.2 k.2),(max a.2.1 k.1,max a.2.2 k.2))
def bndN (K:List Cc):Nat→(Int×Int)×(Int×Int)
 | 0=>match K[0]? with|none=>((0,0),(0,0))|some x=>(x.1,x.1)
 | i+1=>match K[i+1]? with|none=>bndN K i|some x=>bndS (bndN K i) x.1
abbrev bndC (a:(Int×Int)×(Int×Int)):List Value:=[.int .i64 a.1.1,.int .i64 a.1.2,.int .i64 a.2.1,.int .i64 a.2.2]
theorem DG.rows {w:World} {B r:Nat} {v:Value} {ys:List (Cc×Value)} (hd:DG w B r v ys):∃ p cp,v=.slice p ys.length cp∧∀ (i:Nat) x,(ys.map (·.1))[i]? = some x→∃ b,p=some ⟨b,0,none⟩∧∀ wq,Kp w wq Nul→wq.rangeAt b (i * 23) [.int .i64 x.1.1,.int .i64 x.1.2]:=by
 obtain ⟨p,cp,e,hp⟩:=hd.pts.slice
 refine ⟨p,cp,e,fun i x hx=>?_⟩
 have hi:i < ys.length:=by have:=(List.getElem?_eq_some_iff.1 hx).1;rw [List.length_map] at this;exact this
 obtain ⟨b,eb,_,hrow⟩:=hp (by omega)
 have hy:ys[i]? = some ys[i]:=List.getElem?_eq_getElem hi
 have ex:x=ys[i].1:=by
  rw [List.getElem?_map,hy,Option.map_some] at hx
  exact (Option.some.inj hx).symm
 refine ⟨b,eb,fun wq k=>?_⟩
 rw [ex]
 exact (pt_parts (rangeAt_kp (hrow i ys[i] hy) k (fun x=>x))).1
theorem a4_ones (a b c d:Int):([.int .i64 a,.int .i64 b,.int .i64 c,.int .i64 d]:List Value).toArray.all (·.oneCell')=true:=by simp [Value.oneCell']
theorem a2_onesB (c q:Int):([.int .i64 c,.int .i64 q]:List Value).toArray.all (·.oneCell')=true:=by simp [Value.oneCell']
theorem infoArea4:(Tryz.prog.info? 48).map (·.size)=some 4:=by kernel_rfl
theorem rbounds_at (B r:Nat) (v:Value) (ys:List (Cc×Value)) (K:List Cc) (w:World) (hd:DG w B r v ys) (hK:ys.map (·.1)=K) (hn4:K.length≤4096) :
  Calls Tryz.prog 23 #[.pointer (some ⟨r,0,none⟩)] w fun e w'=>e=.returned (.tuple #[.agg (bndC (bndN K (K.length - 1))).toArray,.bool (decide (0 < K.length))])∧Kp w w' Nul:=by
 obtain ⟨p,cp,rfl,hR⟩:=hd.rows
 rw [hK] at hR
 obtain ⟨n,hn⟩:∃ n,K.length=n:=⟨_,rfl⟩
 have hyn:ys.length=n:=by rw [← hn,← hK,List.length_map]
 rw [hyn] at hd
 have HS:Hid (∀ wq,Kp w wq Nul→wq.cell? ⟨r,0,none⟩=some (.slice p n cp)):=fun wq k=>(hd.box.kp k (fun x=>x)).cell (i:=0) rfl
 have HR:Hid (∀ (i:Nat) x,K[i]? = some x→∃ b,p=some ⟨b,0,none⟩∧∀ wq,Kp w wq Nul→wq.rangeAt b (i * 23) [.int .i64 x.1.1,.int .i64 x.1.2]):=hR
 obtain ⟨W,hW⟩:∃ W,w.alloc (.cells #[.int .i64 0,.int .i64 0,.int .i64 0,.int .i64 0] 48)=W:=⟨_,rfl⟩
 have HW:Hid (w.alloc (.cells #[.int .i64 0,.int .i64 0,.int .i64 0,.int .i64 0] 48)=W):=hW
 have HKW:Hid (Kp w W Nul):=by show Kp _ _ _;rw [← hW];exact (Kp.refl _ _).alloc _
 have HB:Hid (Blk W w.heap.size [.int .i64 0,.int .i64 0,.int .i64 0,.int .i64 0] 48):=by show Blk _ _ _ _;rw [← hW];exact Blk.new w _ _
 have s0:=HS.out W HKW.out
 have HN:Hid (K.length=n∧n≤4096):=⟨hn,by omega⟩
 rw [hn]
 clear hd hR hyn hW hn hn4 hK
 by_cases h0:n=0
 ·subst h0
  have HF:Hid (∀ Y,Kp W Y (fun i=>i=w.heap.size)→Ending.returned (.tuple #[.agg #[.int .i64 0,.int .i64 0,.int .i64 0,.int .i64 0],.bool false])=.returned (.tuple #[.agg (bndC (bndN K (0 - 1))).toArray,.bool (decide (0 < 0))])∧Kp w Y Nul):=fun Y k=>by
   have hk:K=[]:=List.eq_nil_of_length_eq_zero HN.out.1
   subst hk
   exact ⟨rfl,HKW.out.trans' k (fun i hi e=>by have e':i=w.heap.size:=e;omega)⟩
  go_enter Tryz.func23,Tryz.ntmps23
  go_wp2_with (first|(rw [HW.out])|(refine wpList_store_blk rfl 48 (.tmp 2) (.tmp 13) rfl w.heap.size [.int .i64 0,.int .i64 0,.int .i64 0,.int .i64 0] [.int .i64 0,.int .i64 0,.int .i64 0,.int .i64 0] 48 HB.out rfl rfl rfl infoArea4 (a4_ones 0 0 0 0) ?_;intro Y hbY hkY)|fail)
  refine bodyPost_ret (results_row_tmp rfl _ _ w.heap.size 48 _ (0,0) _ rfl hbY Tryz.underlying48 rfl infoArea4) rfl ?_
  exact HF.out Y hkY
 ·have hne:((n:Int) == 0)=false:=beq_eq_false_iff_ne.2 (by omega)
  have hn0:(0:Int) < (n:Int):=by omega
  have hn1:0 < n:=by omega
  have hlt0:0 < K.length:=by rw [HN.out.1];omega
  obtain ⟨x,hx⟩:∃ x,K[0]=x:=⟨_,rfl⟩
  have hx0:K[0]? = some x:=by rw [List.getElem?_eq_getElem hlt0,hx]
  obtain ⟨b,rfl,hr⟩:=HR.out 0 x hx0
  have HR0:Hid (∀ wq,Kp w wq Nul→wq.rangeAt b 0 [.int .i64 x.1.1,.int .i64 x.1.2]):=fun wq k=>by have h:=hr wq k;rw [Nat.zero_mul] at h;exact h
  obtain ⟨Wz,hWz⟩:∃ Wz,(W.alloc (.cells #[.int .i64 0,.int .i64 0,.int .i64 0,.int .i64 0] 48)).drew=Wz:=⟨_,rfl⟩
  have HWz:Hid ((W.alloc (.cells #[.int .i64 0,.int .i64 0,.int .i64 0,.int .i64 0] 48)).drew=Wz):=hWz
  have HKz:Hid (Kp w Wz Nul):=by show Kp _ _ _;rw [← hWz];exact (HKW.out.alloc _).drew
  obtain ⟨A,hA⟩:∃ A,W.heap.size=A:=⟨_,rfl⟩
  have HBz:Hid (Blk Wz A [.int .i64 0,.int .i64 0,.int .i64 0,.int .i64 0] 48):=by show Blk _ _ _ _;rw [← hWz,← hA];exact (Blk.new W _ _).drew
  have HBw:Hid (Blk Wz w.heap.size [.int .i64 0,.int .i64 0,.int .i64 0,.int .i64 0] 48):=by show Blk _ _ _ _;rw [← hWz];exact (HB.out.alloc _).drew
  have HAw:Hid (w.heap.size < A):=by show _ < _;rw [← hA];exact HB.out.lt
  have HN0:Hid (bndN K 0=(x.1,x.1)):=by show _=_;rw [bndN,hx0]
  obtain ⟨W4,hW4⟩:∃ W4,(((Wz.setCell ⟨A,0,none⟩ (.int .i64 x.1.1)).setCell ⟨A,1,none⟩ (.int .i64 x.1.2)).setCell ⟨A,2,none⟩ (.int .i64 x.1.1)).setCell ⟨A,3,none⟩ (.int .i64 x.1.2)=W4:=⟨_,rfl⟩
  have HW4:Hid ((((Wz.setCell ⟨A,0,none⟩ (.int .i64 x.1.1)).setCell ⟨A,1,none⟩ (.int .i64 x.1.2)).setCell ⟨A,2,none⟩ (.int .i64 x.1.1)).setCell ⟨A,3,none⟩ (.int .i64 x.1.2)=W4):=hW4
  have HB4:Hid (Blk W4 A (bndC (x.1,x.1)) 48):=by show Blk _ _ _ _;rw [← hW4];exact (((HBz.out.set 0 _).set 1 _).set 2 _).set 3 _
  have HBw4:Hid (Blk W4 w.heap.size [.int .i64 0,.int .i64 0,.int .i64 0,.int .i64 0] 48):=by
   show Blk _ _ _ _
   have hne':¬ w.heap.size=A:=by have:=HAw.out;omega
   rw [← hW4]
   exact (((HBw.out.other _ _ hne').other _ _ hne').other _ _ hne').other _ _ hne'
  have HK4:Hid (Kp w W4 Nul):=by
   show Kp _ _ _
   have hle':w.heap.size≤A:=by have:=HAw.out;omega
   rw [← hW4]
   exact (((HKz.out.setCell _ _ (.inl hle')).setCell _ _ (.inl hle')).setCell _ _ (.inl hle')).setCell _ _ (.inl hle')
  clear hr hx hlt0 hWz hW4
  go_enter Tryz.func23,Tryz.ntmps23
  go_upto_region 3 with (first|(rw [HW.out])|fail)
  refine wp_region_noPanic ?_
  refine wp_region_hel (fun w':World=>Kp w w' Nul) (by kernel_rfl) (HKW.out.drew) (fun hHeld=>?_)
  refine wpH_takes (i:=0) (v:=?_) (some 14) rfl rfl (by kernel_rfl) (by kernel_rfl) (by kernel_rfl) (fun _ _ _ h=>h) (Or.inl ⟨by rfl,?_⟩) hHeld ?_
  rotate_left
  ·intro w' hSw;have s0:=HS.out w' hSw;clear hSw;go_simp;try with_reducible rfl
  simp only [Act.put,List.setIfInBounds_toArray,List.set_cons_zero,List.set_cons_succ]
  refine wpH_takes (i:=1) (v:=?_) (some 15) rfl rfl (by kernel_rfl) (by kernel_rfl) (by kernel_rfl) (fun _ _ _ h=>h) (Or.inl ⟨by rfl,?_⟩) hHeld ?_
  rotate_left
  ·intro w' hSw;have s0:=HS.out w' hSw;clear hSw;go_simp;try with_reducible rfl
  simp only [Act.put,List.setIfInBounds_toArray,List.set_cons_zero,List.set_cons_succ]
  refine wpH_takes (i:=2) (v:=?_) (some 16) rfl rfl (by kernel_rfl) (by kernel_rfl) (by kernel_rfl) (fun _ _ _ h=>h) (Or.inl ⟨by rfl,?_⟩) hHeld ?_
  rotate_left
  ·intro w' hSw;have s0:=HS.out w' hSw;clear hSw;go_simp;try with_reducible rfl
  simp only [Act.put,List.setIfInBounds_toArray,List.set_cons_zero,List.set_cons_succ]
  refine wpH_takes (i:=3) (v:=?_) (some 17) rfl rfl (by kernel_rfl) (by kernel_rfl) (by kernel_rfl) (fun _ _ _ h=>h) (Or.inl ⟨by rfl,?_⟩) hHeld ?_
  rotate_left
  ·intro w' hSw;have s0:=HS.out w' hSw;clear hSw;go_simp;try with_reducible rfl
  simp only [Act.put,List.setIfInBounds_toArray,List.set_cons_zero,List.set_cons_succ]
  refine wpH_takes (i:=4) (v:=?_) (some 18) rfl rfl (by kernel_rfl) (by kernel_rfl) (by kernel_rfl) (fun _ _ _ h=>h) (Or.inl ⟨by rfl,?_⟩) hHeld ?_
  rotate_left
  ·intro w' hSw;have s0:=HS.out w' hSw;clear hSw;go_simp;try with_reducible rfl
  simp only [Act.put,List.setIfInBounds_toArray,List.set_cons_zero,List.set_cons_succ]
  refine wpH_takes (i:=5) (v:=?_) (some 19) rfl rfl (by kernel_rfl) (by kernel_rfl) (by kernel_rfl) (fun _ _ _ h=>h) (Or.inl ⟨by rfl,?_⟩) hHeld ?_
  rotate_left
  ·intro w' hSw;have s0:=HS.out w' hSw;clear hSw;go_simp;try with_reducible rfl
  simp only [Act.put,List.setIfInBounds_toArray,List.set_cons_zero,List.set_cons_succ]
  refine wpH_takes (i:=6) (v:=.agg #[.int .i64 x.1.1,.int .i64 x.1.2]) (some 20) rfl rfl (by kernel_rfl) (by kernel_rfl) (by kernel_rfl) (fun _ _ _ h=>h) (Or.inl ⟨by rfl,fun w' hSw=>exec_load_row 36 (.tmp 19) rfl b 0 rfl [.int .i64 x.1.1,.int .i64 x.1.2] _ (HR0.out w' hSw) Tryz.underlying36 rfl infoAddr2⟩) hHeld ?_
  simp only [Act.put,List.setIfInBounds_toArray,List.set_cons_zero,List.set_cons_succ]
  refine wpH_takes (i:=7) (v:=?_) (some 21) rfl rfl (by kernel_rfl) (by kernel_rfl) (by kernel_rfl) (fun _ _ _ h=>h) (Or.inl ⟨by rfl,?_⟩) hHeld ?_
  rotate_left
  ·intro w' hSw;have s0:=HS.out w' hSw;clear hSw;go_simp;try with_reducible rfl
  simp only [Act.put,List.setIfInBounds_toArray,List.set_cons_zero,List.set_cons_succ]
  refine wpH_takes (i:=8) (v:=?_) (some 22) rfl rfl (by kernel_rfl) (by kernel_rfl) (by kernel_rfl) (fun _ _ _ h=>h) (Or.inl ⟨by rfl,?_⟩) hHeld ?_
  rotate_left
  ·intro w' hSw;have s0:=HS.out w' hSw;clear hSw;go_simp;try with_reducible rfl
  simp only [Act.put,List.setIfInBounds_toArray,List.set_cons_zero,List.set_cons_succ]
  refine wpH_takes (i:=9) (v:=?_) (some 23) rfl rfl (by kernel_rfl) (by kernel_rfl) (by kernel_rfl) (fun _ _ _ h=>h) (Or.inl ⟨by rfl,?_⟩) hHeld ?_
  rotate_left
  ·intro w' hSw;have s0:=HS.out w' hSw;clear hSw;go_simp;try with_reducible rfl
  simp only [Act.put,List.setIfInBounds_toArray,List.set_cons_zero,List.set_cons_succ]
  refine wpH_takes (i:=10) (v:=?_) (some 24) rfl rfl (by kernel_rfl) (by kernel_rfl) (by kernel_rfl) (fun _ _ _ h=>h) (Or.inl ⟨by rfl,?_⟩) hHeld ?_
  rotate_left
  ·intro w' hSw;have s0:=HS.out w' hSw;clear hSw;go_simp;try with_reducible rfl
  simp only [Act.put,List.setIfInBounds_toArray,List.set_cons_zero,List.set_cons_succ]
  refine wpH_takes (i:=11) (v:=?_) (some 25) rfl rfl (by kernel_rfl) (by kernel_rfl) (by kernel_rfl) (fun _ _ _ h=>h) (Or.inl ⟨by rfl,?_⟩) hHeld ?_
  rotate_left
  ·intro w' hSw;have s0:=HS.out w' hSw;clear hSw;go_simp;try with_reducible rfl
  simp only [Act.put,List.setIfInBounds_toArray,List.set_cons_zero,List.set_cons_succ]
  refine wpH_takes (i:=12) (v:=?_) (some 26) rfl rfl (by kernel_rfl) (by kernel_rfl) (by kernel_rfl) (fun _ _ _ h=>h) (Or.inl ⟨by rfl,?_⟩) hHeld ?_
  rotate_left
  ·intro w' hSw;have s0:=HS.out w' hSw;clear hSw;go_simp;try with_reducible rfl
  simp only [Act.put,List.setIfInBounds_toArray,List.set_cons_zero,List.set_cons_succ]
  refine wpH_takes (i:=13) (v:=.agg #[.int .i64 x.1.1,.int .i64 x.1.2]) (some 27) rfl rfl (by kernel_rfl) (by kernel_rfl) (by kernel_rfl) (fun _ _ _ h=>h) (Or.inl ⟨by rfl,fun w' hSw=>exec_load_row 36 (.tmp 26) rfl b 0 rfl [.int .i64 x.1.1,.int .i64 x.1.2] _ (HR0.out w' hSw) Tryz.underlying36 rfl infoAddr2⟩) hHeld ?_
  simp only [Act.put,List.setIfInBounds_toArray,List.set_cons_zero,List.set_cons_succ]
  refine wpH_takes (i:=14) (v:=?_) (some 28) rfl rfl (by kernel_rfl) (by kernel_rfl) (by kernel_rfl) (fun _ _ _ h=>h) (Or.inl ⟨by rfl,?_⟩) hHeld ?_
  rotate_left
  ·intro w' hSw;have s0:=HS.out w' hSw;clear hSw;go_simp;try with_reducible rfl
  simp only [Act.put,List.setIfInBounds_toArray,List.set_cons_zero,List.set_cons_succ]
  refine wpH_step (i:=15) (by kernel_rfl) rfl rfl (fun KK hKK=>?_)
  go_simp
  rw [HWz.out]
  refine hKK.out _ _ HKz.out (fun hHeld=>?_)
  clear hKK KK
  (try simp only [Act.put,List.setIfInBounds_toArray,List.set_cons_zero,List.set_cons_succ])
  refine wpH_step (i:=16) (by kernel_rfl) rfl rfl (fun KK hKK=>?_)
  have c0:Wz.cell? ⟨A,0,none⟩=some (.int .i64 0):=HBz.out.cell rfl
  have c1:Wz.cell? ⟨A,1,none⟩=some (.int .i64 0):=HBz.out.cell rfl
  have c2:Wz.cell? ⟨A,2,none⟩=some (.int .i64 0):=HBz.out.cell rfl
  have c3:Wz.cell? ⟨A,3,none⟩=some (.int .i64 0):=HBz.out.cell rfl
  have f0:Wz.frozen? ⟨A,0,none⟩=false:=HBz.out.froz 0
  have f1:Wz.frozen? ⟨A,1,none⟩=false:=HBz.out.froz 1
  have f2:Wz.frozen? ⟨A,2,none⟩=false:=HBz.out.froz 2
  have f3:Wz.frozen? ⟨A,3,none⟩=false:=HBz.out.froz 3
  go_simp
  rw [HW4.out]
  refine hKK.out _ _ HK4.out (fun hHeld=>?_)
  clear hKK KK c0 c1 c2 c3 f0 f1 f2 f3
  refine wpAnyH_done (by kernel_rfl) ?_ _
  refine NoPanic.normal ?_
  clear hHeld HWz HKz HBz HBw HW4 HR0 HB HKW HW s0
  go_wp2_with fail
  go_loopw [5] (fun i wr=>∃ q:Nat,q < n∧i=.int .i64 ((q:Int)+1)∧Blk wr w.heap.size [.int .i64 0,.int .i64 0,.int .i64 0,.int .i64 0] 48∧Blk wr A (bndC (bndN K q)) 48∧Kp w wr Nul) (fun i _=>n - (RowKit.intOf i).toNat)
  case atStart=>exact ⟨0,hn1,rfl,HBw4.out,by rw [HN0.out];exact HB4.out,HK4.out⟩
  case round=>
   obtain ⟨q,hq,rfl,hb0,hbA,hkr⟩:=hrel
   have HB0:Hid (Blk wr w.heap.size [.int .i64 0,.int .i64 0,.int .i64 0,.int .i64 0] 48):=hb0
   have HKr:Hid (Kp w wr Nul):=hkr
   have s1:=HS.out wr hkr
   by_cases hlt:q+1 < n
   ·have hlt':(q:Int)+1 < (n:Int):=by omega
    have hq0:(0:Int)≤(q:Int)+1:=by omega
    have hwq:wrap64 ((q:Int)+1+1)=(q:Int)+1+1:=by unfold wrap64;have:=HN.out.2;omega
    have hkb:(q:Int)+1+1≤9223372036854775807:=by have:=HN.out.2;omega
    have hltk:q+1 < K.length:=by rw [HN.out.1];exact hlt
    obtain ⟨y,hy⟩:∃ y,K[q+1]=y:=⟨_,rfl⟩
    have hy0:K[q+1]? = some y:=by rw [List.getElem?_eq_getElem hltk,hy]
    obtain ⟨b',eb,hr⟩:=HR.out (q+1) y hy0
    obtain rfl:b=b':=by injection eb with eb;injection eb with eb
    have HRy:Hid (wr.rangeAt b ((q+1) * 23) [.int .i64 y.1.1,.int .i64 y.1.2]):=hr wr hkr
    have HNq:Hid (bndN K (q+1)=bndS (bndN K q) y.1):=by show _=_;rw [bndN,hy0]
    obtain ⟨C,hC⟩:∃ C,wr.heap.size=C:=⟨_,rfl⟩
    obtain ⟨W5,hW5⟩:∃ W5,wr.alloc (.cells #[.int .i64 y.1.1,.int .i64 y.1.2] 36)=W5:=⟨_,rfl⟩
    have HW5:Hid (wr.alloc (.cells #[.int .i64 y.1.1,.int .i64 y.1.2] 36)=W5):=hW5
    have k5:Kp wr W5 Nul:=by rw [← hW5];exact (Kp.refl _ _).alloc _
    have HK5:Hid (Kp wr W5 Nul):=k5
    have HC5:Hid (Blk W5 C [.int .i64 y.1.1,.int .i64 y.1.2] 36):=by show Blk _ _ _ _;rw [← hW5,← hC];exact Blk.new wr _ _
    generalize bndN K q=a at *
    have HA5:Hid (Blk W5 A ([] ++ [.int .i64 a.1.1,.int .i64 a.1.2] ++ [.int .i64 a.2.1,.int .i64 a.2.2]) 48):=hbA.kp k5 (fun x=>x)
    have HAC:Hid (A < C):=by show _ < _;rw [← hC];exact hbA.lt
    have a0:W5.cell? ⟨A,0,none⟩=some (.int .i64 a.1.1):=HA5.out.cell rfl
    have a1:W5.cell? ⟨A,1,none⟩=some (.int .i64 a.1.2):=HA5.out.cell rfl
    have d0:W5.cell? ⟨C,0,none⟩=some (.int .i64 y.1.1):=HC5.out.cell rfl
    have d1:W5.cell? ⟨C,1,none⟩=some (.int .i64 y.1.2):=HC5.out.cell rfl
    clear hr hy hy0 eb hltk hb0 hkr hbA k5 hW5
    go_upto_region 8 with (first|(refine wpList_load_mid rfl 36 (.tmp 44) rfl b ((q+1) * 23) rfl [.int .i64 y.1.1,.int .i64 y.1.2] _ HRy.out Tryz.underlying36 rfl infoAddr2 ?_)|fail)
    rw [HW5.out]
    go_upto_region 9 with (first|(refine wpList_store_part rfl 36 (.tmp 59) (.tmp 58) rfl A 0 [] [.int .i64 a.1.1,.int .i64 a.1.2] [.int .i64 a.2.1,.int .i64 a.2.2] [.int .i64 (min a.1.1 y.1.1),.int .i64 (min a.1.2 y.1.2)] 48 HA5.out rfl rfl rfl rfl infoAddr2 (a2_onesB (min a.1.1 y.1.1) (min a.1.2 y.1.2)) ?_;intro Y hbY hkY)|fail)
    have HA6:Hid (Blk Y A ([.int .i64 (min a.1.1 y.1.1),.int .i64 (min a.1.2 y.1.2)] ++ [.int .i64 a.2.1,.int .i64 a.2.2] ++ []) 48):=hbY
    have HC6:Hid (Blk Y C [.int .i64 y.1.1,.int .i64 y.1.2] 36):=HC5.out.kp hkY (fun e=>by have e':C=A:=e;have:=HAC.out;omega)
    have HK6:Hid (Kp wr Y (fun i=>i=A)):=HK5.out.of_nul.trans hkY
    have b2:Y.cell? ⟨A,2,none⟩=some (.int .i64 a.2.1):=HA6.out.cell rfl
    have b3:Y.cell? ⟨A,3,none⟩=some (.int .i64 a.2.2):=HA6.out.cell rfl
    have e0:Y.cell? ⟨C,0,none⟩=some (.int .i64 y.1.1):=HC6.out.cell rfl
    have e1:Y.cell? ⟨C,1,none⟩=some (.int .i64 y.1.2):=HC6.out.cell rfl
    clear hbY hkY a0 a1 d0 d1 HW5
    go_wp2_with (first|(refine wpList_store_part rfl 36 (.tmp 73) (.tmp 72) rfl A 2 [.int .i64 (min a.1.1 y.1.1),.int .i64 (min a.1.2 y.1.2)] [.int .i64 a.2.1,.int .i64 a.2.2] [] [.int .i64 (max a.2.1 y.1.1),.int .i64 (max a.2.2 y.1.2)] 48 HA6.out rfl rfl rfl rfl infoAddr2 (a2_onesB (max a.2.1 y.1.1) (max a.2.2 y.1.2)) ?_;intro X hbX hkX)|fail)
    have HX:Hid (Blk X w.heap.size [.int .i64 0,.int .i64 0,.int .i64 0,.int .i64 0] 48∧Blk X A (bndC (bndN K (q+1))) 48∧Kp w X Nul):=by
     have hk:Kp wr X (fun i=>i=A):=HK6.out.trans hkX
     refine ⟨HB0.out.kp hk (fun e=>by have e':w.heap.size=A:=e;have:=HAw.out;omega),by rw [HNq.out];exact hbX,HKr.out.trans' hk (fun i hi e=>by have e':i=A:=e;have:=HAw.out;omega)⟩
    clear hbX hkX
    go_roundw
    case rel=>exact ⟨q+1,hlt,by go_num,HX.out⟩
    case measure=>simp only [RowKit.intOf];omega
   ·have hqn:q+1=n:=by omega
    have hlt':¬ (q:Int)+1 < (n:Int):=by omega
    have HF:Hid (∀ Y,Kp wr Y (fun i=>i=w.heap.size)→Ending.returned (.tuple #[.agg (bndC (bndN K q)).toArray,.bool true])=.returned (.tuple #[.agg (bndC (bndN K (n - 1))).toArray,.bool true])∧Kp w Y Nul):=fun Y k=>by
     have e1:n - 1=q:=by omega
     rw [e1]
     exact ⟨rfl,HKr.out.trans' k (fun i hi e=>by have e':i=w.heap.size:=e;omega)⟩
    generalize bndN K q=a at *
    have HRA:Hid (wr.rangeAt A 0 (bndC a)):=hbA.all
    clear hb0 hbA hkr
    go_wp2_with (first
     | (refine wpList_load_mid rfl 48 (.tmp 4) rfl A 0 rfl (bndC a) _ HRA.out Tryz.underlying48 rfl infoArea4 ?_)
     | (refine wpList_store_blk rfl 48 (.tmp 2) (.tmp 74) rfl w.heap.size [.int .i64 0,.int .i64 0,.int .i64 0,.int .i64 0] (bndC a) 48 HB0.out rfl rfl rfl infoArea4 (a4_ones a.1.1 a.1.2 a.2.1 a.2.2) ?_;intro Y hbY hkY)
     | fail)
    refine bodyPost_ret (results_row_tmp rfl _ _ w.heap.size 48 _ (0,0) _ rfl hbY Tryz.underlying48 rfl infoArea4) rfl ?_
    exact HF.out Y hkY
theorem ownsRow_nul {w w':World} {B k n:Nat} {t:TypeId} {v:Value} {xs:List Value} (h:w.ownsRow B t k v n xs) (hk:Kp w w' Nul):w'.ownsRow B t k v n xs:=by
 refine ⟨h.1,?_⟩
 rcases h.2 with q|⟨g,c,cur,e,hb,hh,rest⟩
 ·exact .inl q
 ·exact .inr ⟨g,c,cur,e,hb,(hk.block g (Array.getElem?_eq_some_iff.1 hh).1 (fun x=>x)).trans hh,rest⟩
theorem infoPut23:(Tryz.prog.info? 84).map (·.size)=some 23:=by kernel_rfl
def inQ (a1 a2 a3 a4:Int) (ys:List (Cc×Value)) (q:Nat):List (Cc×Value):=(ys.take q).filter fun y=>inA a1 a2 a3 a4 y.1.1.1 y.1.1.2
theorem inQ_next {a1 a2 a3 a4:Int} {ys:List (Cc×Value)} {q:Nat} {y:Cc×Value} (h:ys[q]? = some y):inQ a1 a2 a3 a4 ys (q+1)=if inA a1 a2 a3 a4 y.1.1.1 y.1.1.2=true then inQ a1 a2 a3 a4 ys q ++ [y] else inQ a1 a2 a3 a4 ys q:=by
 obtain ⟨hq,rfl⟩:=List.getElem?_eq_some_iff.1 h
 unfold inQ
 rw [List.take_succ_eq_append_getElem hq,List.filter_append]
 split
 ·rename_i hy
  simp [hy]
 ·rename_i hy
  simp [hy]
theorem inQ_mem {a1 a2 a3 a4:Int} {ys:List (Cc×Value)} {q:Nat} {y:Cc×Value} (h:y∈inQ a1 a2 a3 a4 ys q):y∈ys:=List.mem_of_mem_take (List.mem_filter.1 h).1
theorem ownsRow_low {w:World} {B B' k n:Nat} {t:TypeId} {v:Value} {xs:List Value} (h:w.ownsRow B t k v n xs) (hB:B'≤B):w.ownsRow B' t k v n xs:=by
 refine ⟨h.1,?_⟩
 rcases h.2 with q|⟨g,c,cur,e,hb,rest⟩
 ·exact .inl q
 ·exact .inr ⟨g,c,cur,e,Nat.le_trans hB hb,rest⟩
theorem inQ_len (a1 a2 a3 a4:Int) (ys:List (Cc×Value)) (q:Nat):(inQ a1 a2 a3 a4 ys q).length≤ys.length:=by
 unfold inQ
 exact Nat.le_trans (List.length_filter_le _ _) (by rw [List.length_take];omega)
theorem rin_at (B r:Nat) (v:Value) (ys:List (Cc×Value)) (a1 a2 a3 a4:Int) (w:World) (hd:DG w B r v ys) (hn4:ys.length≤4096) :
  Calls Tryz.prog 24 #[.pointer (some ⟨r,0,none⟩),.agg #[.int .i64 a1,.int .i64 a2,.int .i64 a3,.int .i64 a4]] w fun e w'=>∃ v',e=.returned v'∧Pts w' w.heap.size (fun _=>True) v' (inQ a1 a2 a3 a4 ys ys.length)∧Kp w w' Nul:=by
 obtain ⟨p,cp,rfl,hp⟩:=hd.pts.slice
 obtain ⟨i0,hi0,hz0,hz1,hz2⟩:=infoPutI
 obtain ⟨n,hn⟩:∃ n,ys.length=n:=⟨_,rfl⟩
 have HS:Hid (∀ wq,Kp w wq Nul→wq.cell? ⟨r,0,none⟩=some (.slice p n cp)):=fun wq k=>by
  have h:=(hd.box.kp k (fun x=>x)).cell (i:=0) rfl
  rw [hn] at h
  exact h
 have HR:Hid (∀ (i:Nat) y,ys[i]? = some y→∃ b,p=some ⟨b,0,none⟩∧∀ wq,Kp w wq Nul→wq.rangeAt b (i * 23) [.int .i64 y.1.1.1,.int .i64 y.1.1.2]∧wq.rangeAt b (i * 23) (ptCells y.1 y.2)):=fun i y hy=>by
  obtain ⟨b,eb,_,hrow⟩:=hp (by have:=(List.getElem?_eq_some_iff.1 hy).1;omega)
  exact ⟨b,eb,fun wq k=>⟨(pt_parts (rangeAt_kp (hrow i y hy) k (fun x=>x))).1,rangeAt_kp (hrow i y hy) k (fun x=>x)⟩⟩
 have HT:Hid (∀ wq,Kp w wq Nul→∀ y∈ys,NdIn wq (fun _=>True) y.2 y.1.2.t):=fun wq k=>(hd.kp k).pts.tree
 have HIn:Hid (∀ (x1 x2:Int) wq,Calls Tryz.prog 46 #[.agg #[.int .i64 a1,.int .i64 a2,.int .i64 a3,.int .i64 a4],.agg #[.int .i64 x1,.int .i64 x2]] wq fun e w'=>e=.returned (.bool (inA a1 a2 a3 a4 x1 x2))∧Kp wq w' Nul):=fun x1 x2 wq=>(rIn_any a1 a2 a3 a4 x1 x2 wq).mono fun e w' h=>⟨h.1,Kp.of_gr h.2⟩
 obtain ⟨W,hW⟩:∃ W,w.alloc (.cells #[.int .i64 a1,.int .i64 a2,.int .i64 a3,.int .i64 a4] 48)=W:=⟨_,rfl⟩
 have HW:Hid (w.alloc (.cells #[.int .i64 a1,.int .i64 a2,.int .i64 a3,.int .i64 a4] 48)=W):=hW
 have HKW:Hid (Kp w W Nul):=by show Kp _ _ _;rw [← hW];exact (Kp.refl _ _).alloc _
 have HB:Hid (Blk W w.heap.size [.int .i64 a1,.int .i64 a2,.int .i64 a3,.int .i64 a4] 48):=by show Blk _ _ _ _;rw [← hW];exact Blk.new w _ _
 have HN:Hid (ys.length=n∧n≤4096):=⟨hn,by omega⟩
 have HSz:Hid (W.heap.size=w.heap.size+1):=by show _=_;rw [← hW,World.size_alloc]
 rw [hn]
 clear hd hp hn hn4 hW
 go_enter Tryz.func24,Tryz.ntmps24
 go_wp2_with (first|(rw [HW.out])|fail)
 go_loopw [5,6] (fun vo i wr=>∃ (q:Nat) (po:Option Addr) (no co:Nat),q≤n∧vo=.slice po no co∧i=.int .i64 q∧wr.ownsRow (w.heap.size+1) 84 23 (.slice po no co) (inQ a1 a2 a3 a4 ys q).length (rowP (inQ a1 a2 a3 a4 ys q))∧Kp W wr Nul) (fun _ i _=>n - (RowKit.intOf i).toNat)
 case atStart=>exact ⟨0,none,0,0,Nat.zero_le _,rfl,rfl,World.ownsRow_nil _ _ _ _,Kp.refl _ _⟩
 case round=>
  obtain ⟨q,po,no,co,hq,rfl,rfl,how,hkr⟩:=hrel
  have HKr:Hid (Kp w wr Nul):=HKW.out.trans hkr
  have HKr1:Hid (Kp W wr Nul):=hkr
  have HOw:Hid (wr.ownsRow (w.heap.size+1) 84 23 (.slice po no co) (inQ a1 a2 a3 a4 ys q).length (rowP (inQ a1 a2 a3 a4 ys q))):=how
  have s1:=HS.out wr HKr.out
  by_cases hlt:q < n
  ·have hlt':(q:Int) < (n:Int):=by omega
   have hq0:(0:Int)≤(q:Int):=by omega
   have hkb:(q:Int)+1≤9223372036854775807:=by have:=HN.out.2;omega
   have hltk:q < ys.length:=by rw [HN.out.1];exact hlt
   obtain ⟨y,hy⟩:∃ y,ys[q]=y:=⟨_,rfl⟩
   have hy0:ys[q]? = some y:=by rw [List.getElem?_eq_getElem hltk,hy]
   obtain ⟨b,rfl,hr⟩:=HR.out q y hy0
   have HRy:Hid (∀ wq,Kp w wq Nul→wq.rangeAt b (q * 23) [.int .i64 y.1.1.1,.int .i64 y.1.1.2]∧wq.rangeAt b (q * 23) (ptCells y.1 y.2)):=hr
   have HAr:Hid (∀ wq,Kp wr wq Nul→Blk wq w.heap.size [.int .i64 a1,.int .i64 a2,.int .i64 a3,.int .i64 a4] 48):=fun wq k=>HB.out.kp (HKr1.out.trans k) (fun x=>x)
   have HNx:Hid (inQ a1 a2 a3 a4 ys (q+1)=if inA a1 a2 a3 a4 y.1.1.1 y.1.1.2=true then inQ a1 a2 a3 a4 ys q ++ [y] else inQ a1 a2 a3 a4 ys q):=inQ_next hy0
   have HOn:Hid (∀ u∈ptCells y.1 y.2,u.oneCell'=true):=pt_one y.1 ((HT.out w (Kp.refl _ _) y (List.mem_of_getElem? hy0))).one
   have HLn:Hid ((inQ a1 a2 a3 a4 ys q).length≤4096):=by show _≤_;have h1:=inQ_len a1 a2 a3 a4 ys q;have h2:=HN.out;omega
   clear hr hy hy0 hltk how hkr
   have HIn:=HIn.out y.1.1.1 y.1.1.2
   obtain ⟨I,hI⟩:∃ I,inA a1 a2 a3 a4 y.1.1.1 y.1.1.2=I:=⟨_,rfl⟩
   rw [hI] at HIn HNx
   have HIn:Hid (∀ wq,Calls Tryz.prog 46 #[.agg #[.int .i64 a1,.int .i64 a2,.int .i64 a3,.int .i64 a4],.agg #[.int .i64 y.1.1.1,.int .i64 y.1.1.2]] wq fun e w'=>e=.returned (.bool I)∧Kp wq w' Nul):=HIn
   clear hI
   generalize inQ a1 a2 a3 a4 ys q=zs at *
   go_upto_region 5 with fail
   refine wp_region_noPanic ?_
   refine wp_region_hel (fun w':World=>Kp wr w' Nul) (by kernel_rfl) ((Kp.refl _ _).drew) (fun hHeld=>?_)
   refine wpH_takes (i:=0) (v:=.agg #[.int .i64 a1,.int .i64 a2,.int .i64 a3,.int .i64 a4]) (some 17) rfl rfl (by kernel_rfl) (by kernel_rfl) (by kernel_rfl) (fun _ _ _ h=>h) (Or.inl ⟨by rfl,fun w' hSw=>exec_load_row 48 (.tmp 3) rfl w.heap.size 0 rfl [.int .i64 a1,.int .i64 a2,.int .i64 a3,.int .i64 a4] _ (HAr.out w' hSw).all Tryz.underlying48 rfl infoArea4⟩) hHeld ?_
   simp only [Act.put,List.setIfInBounds_toArray,List.set_cons_zero,List.set_cons_succ]
   refine wpH_takes (i:=1) (v:=?_) (some 18) rfl rfl (by kernel_rfl) (by kernel_rfl) (by kernel_rfl) (fun _ _ _ h=>h) (Or.inl ⟨by rfl,?_⟩) hHeld ?_
   rotate_left
   ·intro w' hSw;have s0:=HS.out w' (HKr.out.trans hSw);clear hSw;go_simp;try with_reducible rfl
   simp only [Act.put,List.setIfInBounds_toArray,List.set_cons_zero,List.set_cons_succ]
   refine wpH_takes (i:=2) (v:=?_) (some 19) rfl rfl (by kernel_rfl) (by kernel_rfl) (by kernel_rfl) (fun _ _ _ h=>h) (Or.inl ⟨by rfl,?_⟩) hHeld ?_
   rotate_left
   ·intro w' hSw;have s0:=HS.out w' (HKr.out.trans hSw);clear hSw;go_simp;try with_reducible rfl
   simp only [Act.put,List.setIfInBounds_toArray,List.set_cons_zero,List.set_cons_succ]
   refine wpH_takes (i:=3) (v:=?_) (some 20) rfl rfl (by kernel_rfl) (by kernel_rfl) (by kernel_rfl) (fun _ _ _ h=>h) (Or.inl ⟨by rfl,?_⟩) hHeld ?_
   rotate_left
   ·intro w' hSw;have s0:=HS.out w' (HKr.out.trans hSw);clear hSw;go_simp;try with_reducible rfl
   simp only [Act.put,List.setIfInBounds_toArray,List.set_cons_zero,List.set_cons_succ]
   refine wpH_takes (i:=4) (v:=?_) (some 21) rfl rfl (by kernel_rfl) (by kernel_rfl) (by kernel_rfl) (fun _ _ _ h=>h) (Or.inl ⟨by rfl,?_⟩) hHeld ?_
   rotate_left
   ·intro w' hSw;have s0:=HS.out w' (HKr.out.trans hSw);clear hSw;go_simp;try with_reducible rfl
   simp only [Act.put,List.setIfInBounds_toArray,List.set_cons_zero,List.set_cons_succ]
   refine wpH_takes (i:=5) (v:=?_) (some 22) rfl rfl (by kernel_rfl) (by kernel_rfl) (by kernel_rfl) (fun _ _ _ h=>h) (Or.inl ⟨by rfl,?_⟩) hHeld ?_
   rotate_left
   ·intro w' hSw;have s0:=HS.out w' (HKr.out.trans hSw);clear hSw;go_simp;try with_reducible rfl
   simp only [Act.put,List.setIfInBounds_toArray,List.set_cons_zero,List.set_cons_succ]
   refine wpH_takes (i:=6) (v:=?_) (some 23) rfl rfl (by kernel_rfl) (by kernel_rfl) (by kernel_rfl) (fun _ _ _ h=>h) (Or.inl ⟨by rfl,?_⟩) hHeld ?_
   rotate_left
   ·intro w' hSw;have s0:=HS.out w' (HKr.out.trans hSw);clear hSw;go_simp;try with_reducible rfl
   simp only [Act.put,List.setIfInBounds_toArray,List.set_cons_zero,List.set_cons_succ]
   refine wpH_takes (i:=7) (v:=?_) (some 24) rfl rfl (by kernel_rfl) (by kernel_rfl) (by kernel_rfl) (fun _ _ _ h=>h) (Or.inl ⟨by rfl,?_⟩) hHeld ?_
   rotate_left
   ·intro w' hSw;have s0:=HS.out w' (HKr.out.trans hSw);clear hSw;go_simp;try with_reducible rfl
   simp only [Act.put,List.setIfInBounds_toArray,List.set_cons_zero,List.set_cons_succ]
   refine wpH_takes (i:=8) (v:=.agg #[.int .i64 y.1.1.1,.int .i64 y.1.1.2]) (some 25) rfl rfl (by kernel_rfl) (by kernel_rfl) (by kernel_rfl) (fun _ _ _ h=>h) (Or.inl ⟨by rfl,fun w' hSw=>exec_load_row 36 (.tmp 24) rfl b (q * 23) rfl [.int .i64 y.1.1.1,.int .i64 y.1.1.2] _ (HRy.out w' (HKr.out.trans hSw)).1 Tryz.underlying36 rfl infoAddr2⟩) hHeld ?_
   simp only [Act.put,List.setIfInBounds_toArray,List.set_cons_zero,List.set_cons_succ]
   refine wpH_step (i:=9) (by kernel_rfl) rfl rfl (fun KK hKK=>?_)
   go_simp
   refine (HIn.out _).mono ?_
   rintro e w5 ⟨rfl,k5⟩
   have HK5:Hid (Kp wr w5 Nul):=((Kp.refl wr Nul).drew).trans k5
   refine hKK.out _ _ HK5.out (fun hHeld=>?_)
   clear hKK KK k5
   (try simp only [Act.put,List.setIfInBounds_toArray,List.set_cons_zero,List.set_cons_succ])
   refine wpH_takes (i:=10) (v:=?_) (some 7) rfl rfl (by kernel_rfl) (by kernel_rfl) (by kernel_rfl) (fun _ _ _ h=>h) (Or.inl ⟨by rfl,?_⟩) hHeld ?_
   rotate_left
   ·intro w' hSw;clear hSw;go_simp;try with_reducible rfl
   simp only [Act.put,List.setIfInBounds_toArray,List.set_cons_zero,List.set_cons_succ]
   refine wpAnyH_done (by kernel_rfl) ?_ _
   refine NoPanic.normal ?_
   clear hHeld
   cases I with
   | false=>
    have HF:Hid (w5.ownsRow (w.heap.size+1) 84 23 (.slice po no co) (inQ a1 a2 a3 a4 ys (q+1)).length (rowP (inQ a1 a2 a3 a4 ys (q+1)))∧Kp W w5 Nul):=by
     rw [if_neg Bool.false_ne_true] at HNx
     rw [HNx.out]
     exact ⟨ownsRow_nul HOw.out HK5.out,HKr1.out.trans HK5.out⟩
    go_wp2_with fail
    go_roundw
    case rel=>exact ⟨q+1,po,no,co,hlt,rfl,by go_num,HF.out⟩
    case measure=>simp only [RowKit.intOf];omega
   | true=>
    have HNy:Hid (inQ a1 a2 a3 a4 ys (q+1)=zs ++ [y]):=by
     rw [if_pos rfl] at HNx
     exact HNx.out
    have s5:=HS.out w5 (HKr.out.trans HK5.out)
    have HR5:Hid (w5.rangeAt b (q * 23) (ptCells y.1 y.2)):=(HRy.out w5 (HKr.out.trans HK5.out)).2
    have HO6:Hid ((w5.alloc (.cells (ptCells y.1 y.2).toArray 84)).ownsRow (w.heap.size+1) 84 23 (.slice po no co) zs.length (rowP zs)):=(ownsRow_nul HOw.out HK5.out).alloc _
    have HC6:Hid (Blk (w5.alloc (.cells (ptCells y.1 y.2).toArray 84)) w5.heap.size (ptCells y.1 y.2) 84):=Blk.new w5 (ptCells y.1 y.2) 84
    have HK6:Hid (Kp W (w5.alloc (.cells (ptCells y.1 y.2).toArray 84)) Nul):=(HKr1.out.trans HK5.out).alloc _
    clear HNx s1 HRy HAr HIn HOw
    go_wp2_with (first
     | (refine wpList_load_mid rfl 84 (.tmp 34) rfl b (q * 23) rfl (ptCells y.1 y.2) _ HR5.out Tryz.underlying84 rfl infoPut23 ?_)
     | (at_builtin;refine wpList_append_own _ rfl (.tmp 28) (.tmp 36) 29 rfl (w.heap.size+1) 84 i0 _ 23 200 Tryz.underlying29 hi0 hz0 hz1 hz2 rfl (by decide) _ _ _ rfl HO6.out ⟨w5.heap.size,0,none⟩ 1 1 (ptCells y.1 y.2) rfl ?n1 ?n2 ?n3 ?n4 ?n5 ?n6 ?_)
     | fail)
    case n1=>rfl
    case n2=>
     intro j u hj
     rw [addr_at,Nat.zero_add]
     exact HC6.out.cell hj
    case n3=>exact HOn.out
    case n4=>have:=HLn.out;unfold maxLen;omega
    case n5=>have:=HLn.out;omega
    case n6=>rw [← HSz.out];exact HK6.out.size
    ·intro v7 w7 hown hgrow _
     have hlt7:=HO6.out.lt
     have K7:Hid (Kp W w7 Nul):=HK6.out.trans' (Kp.of_grown hgrow (S:=fun i=>w.heap.size+1≤i) (fun i hi=>(hlt7 i hi).1)) (fun i hi e=>by have e':w.heap.size+1≤i:=e;have:=HSz.out;omega)
     obtain ⟨p7,n7,c7,rfl⟩:∃ p n c,v7=.slice p n c:=by
      rcases hown.2 with ⟨rfl,_⟩|⟨g,c,cur,rfl,_⟩
      ·exact ⟨_,_,_,rfl⟩
      ·exact ⟨_,_,_,rfl⟩
     have HF:Hid (w7.ownsRow (w.heap.size+1) 84 23 (.slice p7 n7 c7) (inQ a1 a2 a3 a4 ys (q+1)).length (rowP (inQ a1 a2 a3 a4 ys (q+1)))∧Kp W w7 Nul):=by
      rw [HNy.out,rowP_append,List.length_append,rowP,rowP,List.append_nil]
      exact ⟨hown,K7.out⟩
     clear hown hgrow hlt7 HO6 HC6 HK6 HR5 s5
     go_wp2_with fail
     go_roundw
     case rel=>exact ⟨q+1,p7,n7,c7,hlt,rfl,by go_num,HF.out⟩
     case measure=>simp only [RowKit.intOf];omega
  ·have hqn:q=n:=by omega
   subst hqn
   have hlt':¬ (q:Int) < (q:Int):=by omega
   have HF:Hid (Pts wr w.heap.size (fun _=>True) (.slice po no co) (inQ a1 a2 a3 a4 ys q)∧Kp w wr Nul):=⟨⟨ownsRow_low how (by omega),fun z hz=>HT.out wr HKr.out z (inQ_mem hz)⟩,HKr.out⟩
   clear how hkr HOw
   go_wp2_with fail
   go_ret
   exact ⟨_,rfl,HF.out⟩
end Go.Proofs.YtlppcfeakakpfaaGreatDoor
namespace Go.Proofs.YtlppcfeakakpfaaGreatDoor
open Go.RowKit Go.Maps Go.Sort Go.Lib Go.Shelf
attribute [local go_sem] Oper.semAt_some
def wdA (a b:Int):Nat:=(b - a+1).toNat
def cK (m1 m2 m3:Int) (k:Nat):Int×Int:=(m1+(k % wdA m1 m3:Nat),m2+(k / wdA m1 m3:Nat))
def szN (m1 m2 m3 m4:Int):Nat:=if vA m1 m2 m3 m4=true then wdA m2 m4 * wdA m1 m3 else 0
theorem cK_at (m1 m2 m3:Int) (x y:Nat) (hx:x < wdA m1 m3):cK m1 m2 m3 (y * wdA m1 m3+x)=(m1+(x:Int),m2+(y:Int)):=by
 have h1:(y * wdA m1 m3+x) % wdA m1 m3=x:=by rw [Nat.mul_comm,Nat.mul_add_mod,Nat.mod_eq_of_lt hx]
 have h2:(y * wdA m1 m3+x) / wdA m1 m3=y:=by rw [Nat.mul_comm,Nat.mul_add_div (by omega),Nat.div_eq_of_lt hx,Nat.add_zero]
 unfold cK
 rw [h1,h2]
theorem idx_lt {x y u v:Nat} (hx:x < u) (hy:y < v):y * u+x < v * u:=by
 have:(y+1) * u≤v * u:=Nat.mul_le_mul_right u hy
 rw [Nat.add_mul,Nat.one_mul] at this
 omega
abbrev encXA (x:Int×Int):Array Value:=#[.agg #[.int .i64 x.1,.int .i64 x.2]]
def TellA (m1 m2 m3:Int) (k:Nat) (x:Int×Int) (_:Nat→Prop) (_:World):Prop:=x=cK m1 m2 m3 k
theorem cellsA (a b c d:Int) (w:World):Calls Tryz.prog 92 #[.agg #[.int .i64 a,.int .i64 b,.int .i64 c,.int .i64 d]] w fun e w'=>∃ p,e=.returned (.func (.func 110) #[] #[.pointer (some ⟨p,0,none⟩)])∧w.heap.size≤p∧Blk w' p [.int .i64 a,.int .i64 b,.int .i64 c,.int .i64 d] 48∧Kp w w' Nul:=by
 go_enter Tryz.func92,Tryz.ntmps92
 go_wp2_with fail
 go_ret
 exact ⟨_,rfl,Nat.le_refl _,Blk.new w _ _,(Kp.refl _ _).alloc _⟩
theorem res_noneI {fn:Func} (h:fn.results=#[]) (tmps:Array Value) (w:World):(results fn tmps).run Tryz.prog w=.ok (.tuple #[]) w:=by
 simp [results,h]
theorem cells_own (m1 m2 m3 m4:Int) (Bn:Nat) (w:World) (hB:Blk w Bn [.int .i64 m1,.int .i64 m2,.int .i64 m3,.int .i64 m4] 48) (S:Nat→Prop) (hS:¬ S Bn):SeqOwn Tryz.prog 110 #[.pointer (some ⟨Bn,0,none⟩)] encXA (TellA m1 m2 m3) (szN m1 m2 m3 m4) S w:=by
 intro J Z W hkW hsz hJ hJZ hY h0
 obtain ⟨V,hV⟩:∃ V,vA m1 m2 m3 m4=V:=⟨_,rfl⟩
 have HV:Hid (∀ w,Calls Tryz.prog 109 #[.agg #[.int .i64 m1,.int .i64 m2,.int .i64 m3,.int .i64 m4]] w fun e w'=>e=.returned (.bool V)∧Kp w w' Nul):=fun w=>(pValidArea_any m1 m2 m3 m4 w).mono fun e w' h=>⟨hV ▸ h.1,Kp.of_gr h.2⟩
 have hBlt:Bn < w.heap.size:=hB.lt
 have HBk:Hid (∀ k Z W1 W',J k Z W1→Kp W1 W' (fun i=>Z i∨i=w.heap.size+1)→Blk W1 Bn [.int .i64 m1,.int .i64 m2,.int .i64 m3,.int .i64 m4] 48→Blk W' Bn [.int .i64 m1,.int .i64 m2,.int .i64 m3,.int .i64 m4] 48):=fun k Z W1 W' hj hk hb=>hb.kp hk (fun e=>by
  rcases e with e|e
  ·exact hS ((hJZ _ _ _ hj).2 _ hBlt e)
  ·omega)
 have HB:Hid (Blk W Bn [.int .i64 m1,.int .i64 m2,.int .i64 m3,.int .i64 m4] 48):=hB.kp hkW (fun x=>x)
 have HJ:Hid (∀ k Z W W',J k Z W→Kp W W' Nul→J k Z W'):=hJ
 have HJ0:Hid (J 0 Z W):=h0
 have HY:Hid (∀ m k x Z W1,k < szN m1 m2 m3 m4→J k Z W1→TellA m1 m2 m3 k x Z W1→YieldAt Fence.wide m Tryz.prog (w.heap.size+1) (encXA x) W1 fun e W'=>e=.returned (.bool true)∧(∃ Z',J (k+1) Z' W'∧More Z Z' W1)∧Kp W1 W' (fun i=>Z i∨i=w.heap.size+1)):=hY
 have HN:Hid (szN m1 m2 m3 m4=if V=true then wdA m2 m4 * wdA m1 m3 else 0):=by show _=_;rw [← hV];rfl
 have hb:=vA_iff m1 m2 m3 m4
 rw [hV] at hb
 obtain ⟨l,hl⟩:∃ l,w.heap.size+1=l:=⟨_,rfl⟩
 rw [hl] at HY HBk ⊢
 clear hB hkW hsz hJ hJZ hY h0 hl hBlt hS hV
 refine (callsIn_wide (n:=9)).1 ?_
 refine callsIn_of_wp Tryz.func110 rfl trivial ?_ rfl
 simp only [Tryz.ntmps110,List.size_toArray,List.length_cons,List.length_nil,Nat.reduceAdd,Nat.reduceSub,Array.replicate_succ,Array.replicate_zero,List.push_toArray,List.append_toArray,List.nil_append,List.cons_append]
 have a0:W.cell? ⟨Bn,0,none⟩=some (.int .i64 m1):=HB.out.cell rfl
 have a1:W.cell? ⟨Bn,1,none⟩=some (.int .i64 m2):=HB.out.cell rfl
 have a2:W.cell? ⟨Bn,2,none⟩=some (.int .i64 m3):=HB.out.cell rfl
 have a3:W.cell? ⟨Bn,3,none⟩=some (.int .i64 m4):=HB.out.cell rfl
 have HBd:Hid (V=true→1≤m1∧m1≤m3∧m3≤256∧1≤m2∧m2≤m4∧m4≤4096):=hb.1
 clear hb
 gi_wp2_with (fail)
 refine ⟨trivial,(callsIn_wide.2 (HV.out _)).mono ?_⟩
 rintro e W1 ⟨rfl,hk⟩
 have J1:Hid (∃ Z,J 0 Z W1):=⟨Z,HJ.out 0 Z W W1 HJ0.out hk⟩
 have A1:Hid (Blk W1 Bn [.int .i64 m1,.int .i64 m2,.int .i64 m3,.int .i64 m4] 48):=HB.out.kp hk (fun x=>x)
 clear hk a0 a1 a2 a3 HJ0 HJ HB HV
 cases V with
 | false=>
  have HN0:Hid (∃ Z',J (szN m1 m2 m3 m4) Z' W1):=by
   show ∃ _,_
   rw [HN.out]
   exact J1.out
  gi_wp2_with (fail)
  refine bodyPost_ret (res_noneI rfl _ _) rfl ?_
  exact ⟨⟨_,rfl⟩,HN0.out⟩
 | true=>
 obtain ⟨b1,b2,b3,b4,b5,b6⟩:=HBd.out rfl
 have HN1:Hid (szN m1 m2 m3 m4=wdA m2 m4 * wdA m1 m3):=HN.out
 obtain ⟨p,hp⟩:∃ p,wdA m1 m3=p:=⟨_,rfl⟩
 obtain ⟨q,hq⟩:∃ q,wdA m2 m4=q:=⟨_,rfl⟩
 have hp':(p:Int)=m3 - m1+1:=by rw [← hp];unfold wdA;omega
 have hq':(q:Int)=m4 - m2+1:=by rw [← hq];unfold wdA;omega
 have HCK:Hid (∀ x y:Nat,x < p→(m1+(x:Int),m2+(y:Int))=cK m1 m2 m3 (y * p+x)):=fun x y hx=>by
  subst hp
  exact (cK_at m1 m2 m3 x y hx).symm
 rw [hp,hq] at HN1
 clear HN HBd hp hq
 have a0:W1.cell? ⟨Bn,0,none⟩=some (.int .i64 m1):=A1.out.cell rfl
 have a1:W1.cell? ⟨Bn,1,none⟩=some (.int .i64 m2):=A1.out.cell rfl
 have a2:W1.cell? ⟨Bn,2,none⟩=some (.int .i64 m3):=A1.out.cell rfl
 have a3:W1.cell? ⟨Bn,3,none⟩=some (.int .i64 m4):=A1.out.cell rfl
 gi_wp2_with (fail)
 clear a0 a1 a2 a3
 gi_loopw [3,4] (fun sr sc wr=>∃ y:Nat,y≤q∧sr=.int .i64 (m2+y)∧(∃ Z,J (y * p) Z wr)∧Blk wr Bn [.int .i64 m1,.int .i64 m2,.int .i64 m3,.int .i64 m4] 48) (fun sr _ _=>(m4+1 - intOf sr).toNat)
 case atStart=>exact ⟨0,Nat.zero_le _,by simp,by rw [Nat.zero_mul];exact J1.out,A1.out⟩
 case round=>
  obtain ⟨y,hy,rfl,hJs,hnx⟩:=hrel
  have JS:Hid (∃ Z,J (y * p) Z wr):=hJs
  have NX:Hid (Blk wr Bn [.int .i64 m1,.int .i64 m2,.int .i64 m3,.int .i64 m4] 48):=hnx
  clear hJs hnx
  have c0:wr.cell? ⟨Bn,0,none⟩=some (.int .i64 m1):=NX.out.cell rfl
  have c3:wr.cell? ⟨Bn,3,none⟩=some (.int .i64 m4):=NX.out.cell rfl
  by_cases hlt:y < q
  ·have hys:m2+(y:Int)≤m4:=by omega
   gi_wp2_with (fail)
   clear c0 c3
   gi_loopw [4] (fun sc wq=>∃ x:Nat,x≤p∧sc=.int .i64 (m1+x)∧(∃ Z,J (y * p+x) Z wq)∧Blk wq Bn [.int .i64 m1,.int .i64 m2,.int .i64 m3,.int .i64 m4] 48) (fun sc _=>(m3+1 - intOf sc).toNat)
   case atStart=>exact ⟨0,Nat.zero_le _,by simp,JS.out,NX.out⟩
   case round=>
    clear JS NX
    obtain ⟨x,hx,rfl,hJs,hnx⟩:=hrel
    have NX:Hid (Blk wr Bn [.int .i64 m1,.int .i64 m2,.int .i64 m3,.int .i64 m4] 48):=hnx
    obtain ⟨Zq,hJs⟩:=hJs
    have JS:Hid (J (y * p+x) Zq wr):=hJs
    clear hJs hnx
    have c2:wr.cell? ⟨Bn,2,none⟩=some (.int .i64 m3):=NX.out.cell rfl
    by_cases hlx:x < p
    ·have hxs:m1+(x:Int)≤m3:=by omega
     obtain ⟨fn,tmps,assign,body,hy',hR⟩:=HY.out (9 - 1) (y * p+x) (m1+(x:Int),m2+(y:Int)) Zq wr (by rw [HN1.out];exact idx_lt hlx hlt) JS.out (HCK.out x y hlx)
     dsimp only [encXA] at hy'
     gi_wp2_with (fail)
     refine hR.mono ?_
     rintro e W3 ⟨rfl,⟨Z3,hJ3,_⟩,hk3⟩
     have J3:Hid (∃ Z,J (y * p+(x+1)) Z W3):=⟨Z3,hJ3⟩
     have K3:Hid (Blk W3 Bn [.int .i64 m1,.int .i64 m2,.int .i64 m3,.int .i64 m4] 48):=HBk.out _ _ _ _ JS.out hk3 NX.out
     clear hJ3 hk3
     gi_wp2_with (fail)
     go_roundw
     case rel=>exact ⟨x+1,by omega,by go_num,J3.out,K3.out⟩
     case measure=>simp only [intOf];omega
    ·have hxe:x=p:=by omega
     subst hxe
     have hxs:¬ m1+(x:Int)≤m3:=by omega
     have JE:Hid (∃ Z,J ((y+1) * x) Z wr):=⟨Zq,by rw [Nat.add_mul,Nat.one_mul];exact JS.out⟩
     gi_wp2_with (fail)
     go_roundw
     case rel=>exact ⟨y+1,by omega,by go_num,JE.out,NX.out⟩
     case measure=>simp only [intOf];omega
  ·have hye:y=q:=by omega
   subst hye
   have hys:¬ m2+(y:Int)≤m4:=by omega
   have HE:Hid (∃ Z',J (szN m1 m2 m3 m4) Z' wr):=by show ∃ _,_;rw [HN1.out];exact JS.out
   gi_wp2_with (fail)
   go_end0
   exact ⟨⟨_,rfl⟩,HE.out⟩
end Go.Proofs.YtlppcfeakakpfaaGreatDoor
namespace Go.Proofs.YtlppcfeakakpfaaGreatDoor
open Go.RowKit Go.Maps Go.Sort Go.Lib Go.Shelf
def delP (y:Cc×Value):Cc×Value:=((y.1.1,ct0),.slice none 0 0)
def mrg:List (Cc×Value)→List (Cc×Value)→List (Cc×Value)
 | [],[]=>[]
 | y :: ys,[]=>delP y :: mrg ys []
 | [],z :: zs=>z :: mrg [] zs
 | y :: ys,z :: zs=>if cfA y.1.1 z.1.1 < 0 then delP y :: mrg ys (z :: zs) else if 0 < cfA y.1.1 z.1.1 then z :: mrg (y :: ys) zs else if csame y.1.2 z.1.2=true then mrg ys zs else z :: mrg ys zs
termination_by ys zs=>ys.length+zs.length
def cIK (ys zs:List (Cc×Value)):Int:=
 match ys,zs with
 | _,[]=>-1
 | [],_=>1
 | y :: _,z :: _=>cfA y.1.1 z.1.1
theorem mrg_lt {y:Cc×Value} {ys zs:List (Cc×Value)} (h:cIK (y :: ys) zs < 0):mrg (y :: ys) zs=delP y :: mrg ys zs:=by
 cases zs with
 | nil=>rw [mrg]
 | cons z zs=>
  unfold cIK at h
  rw [mrg,if_pos h]
theorem mrg_gt {z:Cc×Value} {ys zs:List (Cc×Value)} (h:0 < cIK ys (z :: zs)):mrg ys (z :: zs)=z :: mrg ys zs:=by
 cases ys with
 | nil=>rw [mrg]
 | cons y ys=>
  unfold cIK at h
  simp only at h
  rw [mrg,if_neg (by omega),if_pos h]
theorem mrg_eq {y z:Cc×Value} {ys zs:List (Cc×Value)} (h:cIK (y :: ys) (z :: zs)=0):mrg (y :: ys) (z :: zs)=if csame y.1.2 z.1.2=true then mrg ys zs else z :: mrg ys zs:=by
 unfold cIK at h
 simp only at h
 rw [mrg,if_neg (by omega),if_neg (by omega)]
theorem mrg_len:∀ (n:Nat) (ys zs:List (Cc×Value)),ys.length+zs.length=n→(mrg ys zs).length≤n:=by
 intro n
 induction n using Nat.strongRecOn with
 | ind n ih=>
  intro ys zs hn
  cases ys with
  | nil=>
   cases zs with
   | nil=>rw [mrg];simp
   | cons z zs=>
    have:=ih zs.length (by simp at hn;omega) [] zs (by simp)
    rw [mrg,List.length_cons];simp at hn;omega
  | cons y ys=>
   cases zs with
   | nil=>
    have:=ih ys.length (by simp at hn;omega) ys [] (by simp)
    rw [mrg,List.length_cons];simp at hn;omega
   | cons z zs=>
    simp only [List.length_cons] at hn
    have h1:=ih (n - 1) (by omega) ys (z :: zs) (by simp only [List.length_cons];omega)
    have h2:=ih (n - 1) (by omega) (y :: ys) zs (by simp only [List.length_cons];omega)
    have h3:=ih (n - 2) (by omega) ys zs (by omega)
    rw [mrg]
    split
    ·rw [List.length_cons];omega
    ·split
     ·rw [List.length_cons];omega
     ·split
      ·omega
      ·rw [List.length_cons];omega
theorem mrg_from:∀ (n:Nat) (ys zs:List (Cc×Value)),ys.length+zs.length=n→∀ x∈mrg ys zs,(∃ y∈ys,x=delP y)∨x∈zs:=by
 intro n
 induction n using Nat.strongRecOn with
 | ind n ih=>
  intro ys zs hn x hx
  have lft:∀ {y:Cc×Value} {ys zs:List (Cc×Value)},((∃ y∈ys,x=delP y)∨x∈zs)→(∃ y'∈y :: ys,x=delP y')∨x∈zs:=fun h=>h.imp (fun ⟨u,h1,h2⟩=>⟨u,List.mem_cons_of_mem _ h1,h2⟩) id
  have rgt:∀ {z:Cc×Value} {ys zs:List (Cc×Value)},((∃ y∈ys,x=delP y)∨x∈zs)→(∃ y'∈ys,x=delP y')∨x∈z :: zs:=fun h=>h.imp id (fun h=>List.mem_cons_of_mem _ h)
  cases ys with
  | nil=>
   cases zs with
   | nil=>rw [mrg] at hx;simp at hx
   | cons z zs=>
    rw [mrg] at hx
    rcases List.mem_cons.1 hx with rfl|hx
    ·exact .inr List.mem_cons_self
    ·exact rgt (ih zs.length (by simp at hn;omega) [] zs (by simp) x hx)
  | cons y ys=>
   cases zs with
   | nil=>
    rw [mrg] at hx
    rcases List.mem_cons.1 hx with rfl|hx
    ·exact .inl ⟨y,List.mem_cons_self,rfl⟩
    ·exact lft (ih ys.length (by simp at hn;omega) ys [] (by simp) x hx)
   | cons z zs=>
    simp only [List.length_cons] at hn
    rw [mrg] at hx
    split at hx
    ·rcases List.mem_cons.1 hx with rfl|hx
     ·exact .inl ⟨y,List.mem_cons_self,rfl⟩
     ·exact lft (ih (n - 1) (by omega) ys (z :: zs) (by simp only [List.length_cons];omega) x hx)
    ·split at hx
     ·rcases List.mem_cons.1 hx with rfl|hx
      ·exact .inr List.mem_cons_self
      ·exact rgt (ih (n - 1) (by omega) (y :: ys) zs (by simp only [List.length_cons];omega) x hx)
     ·have h3:=ih (n - 2) (by omega) ys zs (by omega) x
      split at hx
      ·exact rgt (lft (h3 hx))
      ·rcases List.mem_cons.1 hx with rfl|hx
       ·exact .inr List.mem_cons_self
       ·exact rgt (lft (h3 hx))
theorem un_left {L M:List Cc} {y:Cc} {x:Int×Int} (h:x≠y.1):Un (y :: L) M x ↔ Un L M x:=by
 have e:∀ a,(x,a)∈y :: L ↔ (x,a)∈L:=fun a=>by
  rw [List.mem_cons]
  exact ⟨fun q=>q.elim (fun q=>absurd (congrArg Prod.fst q) h) id,.inr⟩
 unfold Un UnP
 simp only [e]
theorem un_right {L M:List Cc} {z:Cc} {x:Int×Int} (h:x≠z.1):Un L (z :: M) x ↔ Un L M x:=by
 have e:∀ a,(x,a)∈z :: M ↔ (x,a)∈M:=fun a=>by
  rw [List.mem_cons]
  exact ⟨fun q=>q.elim (fun q=>absurd (congrArg Prod.fst q) h) id,.inr⟩
 unfold Un
 simp only [e]
theorem un_no {L M:List Cc} {x:Int×Int} (h1:∀ a,(x,a) ∉ L) (h2:∀ b,(x,b) ∉ M):¬ Un L M x:=by
 rintro (⟨b,q,_⟩|⟨⟨a,q⟩,_⟩)
 ·exact h2 b q
 ·exact h1 a q
theorem strict_cons {K:List Cc} {y:Cc}:Strict ((y :: K).map (·.1)) ↔ (∀ z∈K,ltOf cfA y.1 z.1=true)∧Strict (K.map (·.1)):=by
 unfold Strict
 rw [List.map_cons,List.pairwise_cons]
 refine and_congr ⟨fun h z hz=>h _ (List.mem_map.2 ⟨z,hz,rfl⟩),fun h x hx=>?_⟩ Iff.rfl
 obtain ⟨z,hz,rfl⟩:=List.mem_map.1 hx
 exact h z hz
theorem lt_not_mem {K:List Cc} {k:Int×Int} (h:∀ z∈K,ltOf cfA k z.1=true) (a:Ct):(k,a) ∉ K:=fun q=>by
 have:=h _ q
 rw [swoA.irrefl] at this
 cases this
theorem cfA_neg {x y:Int×Int}:cfA x y < 0 ↔ ltOf cfA x y=true:=by unfold ltOf;simp
theorem cfA_pos {x y:Int×Int}:0 < cfA x y ↔ ltOf cfA y x=true:=by
 rw [cfA_lt]
 unfold cfA ordC cmpI
 by_cases h1:x.2 < y.2 <;> by_cases h2:y.2 < x.2 <;> by_cases h3:x.1 < y.1 <;> by_cases h4:y.1 < x.1 <;> simp [h1,h2,h3,h4] <;> omega
theorem mrg_is:∀ (n:Nat) (ys zs:List (Cc×Value)),ys.length+zs.length=n→Strict (ys.map (·.1.1))→Strict (zs.map (·.1.1)) →
  Strict ((mrg ys zs).map (·.1.1))∧(∀ x,x∈(mrg ys zs).map (·.1.1) ↔ Un (ys.map (·.1)) (zs.map (·.1)) x)∧∀ x∈mrg ys zs,PutOf (zs.map (·.1)) x.1:=by
 intro n
 induction n using Nat.strongRecOn with
 | ind n ih=>
  intro ys zs hn hy hz
  have conv:∀ l:List (Cc×Value),l.map (·.1.1)=(l.map (·.1)).map (·.1):=fun l=>by rw [List.map_map];rfl
  have head:∀ (k:Int×Int) (R:List (Cc×Value)) (ys' zs':List (Cc×Value)),(∀ x,x∈R.map (·.1.1) ↔ Un (ys'.map (·.1)) (zs'.map (·.1)) x)→(∀ z∈ys'.map (·.1),ltOf cfA k z.1=true)→(∀ z∈zs'.map (·.1),ltOf cfA k z.1=true)→∀ z∈R.map (·.1.1),ltOf cfA k z=true:=fun k R ys' zs' hR h1 h2 z hzR=>by
   rcases (hR z).1 hzR with ⟨b,q,_⟩|⟨⟨a,q⟩,_⟩
   ·exact h2 _ q
   ·exact h1 _ q
  cases ys with
  | nil=>
   cases zs with
   | nil=>
    rw [mrg]
    refine ⟨List.Pairwise.nil,fun x=>⟨fun h=>by simp at h,fun h=>absurd h (un_no (by simp) (by simp))⟩,fun x h=>by simp at h⟩
   | cons z zs=>
    rw [conv,List.map_cons,strict_cons] at hz
    obtain ⟨i1,i2,i3⟩:=ih zs.length (by simp at hn;omega) [] zs (by simp) hy (by rw [conv];exact hz.2)
    rw [mrg]
    refine ⟨List.pairwise_cons.2 ⟨head _ _ [] zs i2 (by simp) hz.1,i1⟩,fun x=>?_,fun x hx=>?_⟩
    ·rw [List.map_cons,List.mem_cons,i2,List.map_cons]
     by_cases e:x=z.1.1
     ·subst e
      exact ⟨fun _=>.inl ⟨z.1.2,List.mem_cons_self,fun ⟨a,q,_⟩=>by simp at q⟩,fun _=>.inl rfl⟩
     ·rw [un_right e]
      exact ⟨fun q=>q.elim (fun q=>absurd q e) id,.inr⟩
    ·rcases List.mem_cons.1 hx with rfl|hx
     ·exact .inl List.mem_cons_self
     ·rcases i3 x hx with q|⟨q1,q2⟩
      ·exact .inl (List.mem_cons_of_mem _ q)
      ·exfalso
       rcases mrg_from _ [] zs rfl x hx with ⟨y,h,_⟩|h
       ·simp at h
       ·exact q2 x.1.2 (List.mem_map.2 ⟨x,h,rfl⟩)
  | cons y ys=>
   rw [conv,List.map_cons,strict_cons] at hy
   cases zs with
   | nil=>
    obtain ⟨i1,i2,i3⟩:=ih ys.length (by simp at hn;omega) ys [] (by simp) (by rw [conv];exact hy.2) hz
    rw [mrg]
    refine ⟨List.pairwise_cons.2 ⟨head _ _ ys [] i2 hy.1 (by simp),i1⟩,fun x=>?_,fun x hx=>?_⟩
    ·rw [List.map_cons,List.mem_cons,i2,List.map_cons]
     by_cases e:x=y.1.1
     ·subst e
      exact ⟨fun _=>.inr ⟨⟨y.1.2,List.mem_cons_self⟩,fun b q=>by simp at q⟩,fun _=>.inl rfl⟩
     ·rw [un_left e]
      exact ⟨fun q=>q.elim (fun q=>absurd q e) id,.inr⟩
    ·rcases List.mem_cons.1 hx with rfl|hx
     ·exact .inr ⟨rfl,fun b q=>by simp at q⟩
     ·exact i3 x hx
   | cons z zs=>
    rw [conv,List.map_cons,strict_cons] at hz
    simp only [List.length_cons] at hn
    rw [mrg]
    split
    ·rename_i hc
     have hlt:=cfA_neg.1 hc
     obtain ⟨i1,i2,i3⟩:=ih (n - 1) (by omega) ys (z :: zs) (by simp only [List.length_cons];omega) (by rw [conv];exact hy.2) (by rw [conv,List.map_cons,strict_cons];exact hz)
     have hall:∀ u∈(z :: zs).map (·.1),ltOf cfA y.1.1 u.1=true:=fun u hu=>by
      rw [List.map_cons] at hu
      rcases List.mem_cons.1 hu with rfl|hu
      ·exact hlt
      ·exact swoA.trans _ _ _ hlt (hz.1 u hu)
     refine ⟨List.pairwise_cons.2 ⟨head _ _ ys (z :: zs) i2 hy.1 hall,i1⟩,fun x=>?_,fun x hx=>?_⟩
     ·rw [List.map_cons,List.mem_cons,i2,List.map_cons (l:=ys)]
      by_cases e:x=y.1.1
      ·subst e
       exact ⟨fun _=>.inr ⟨⟨y.1.2,List.mem_cons_self⟩,fun b=>lt_not_mem hall b⟩,fun _=>.inl rfl⟩
      ·rw [un_left e]
       exact ⟨fun q=>q.elim (fun q=>absurd q e) id,.inr⟩
     ·rcases List.mem_cons.1 hx with rfl|hx
      ·exact .inr ⟨rfl,fun b=>lt_not_mem hall b⟩
      ·exact i3 x hx
    ·rename_i hc1
     split
     ·rename_i hc
      have hlt:=cfA_pos.1 hc
      obtain ⟨i1,i2,i3⟩:=ih (n - 1) (by omega) (y :: ys) zs (by simp only [List.length_cons];omega) (by rw [conv,List.map_cons,strict_cons];exact hy) (by rw [conv];exact hz.2)
      have hall:∀ u∈(y :: ys).map (·.1),ltOf cfA z.1.1 u.1=true:=fun u hu=>by
       rw [List.map_cons] at hu
       rcases List.mem_cons.1 hu with rfl|hu
       ·exact hlt
       ·exact swoA.trans _ _ _ hlt (hy.1 u hu)
      refine ⟨List.pairwise_cons.2 ⟨head _ _ (y :: ys) zs i2 hall hz.1,i1⟩,fun x=>?_,fun x hx=>?_⟩
      ·rw [List.map_cons,List.mem_cons,i2,List.map_cons (l:=zs)]
       by_cases e:x=z.1.1
       ·subst e
        exact ⟨fun _=>.inl ⟨z.1.2,List.mem_cons_self,fun ⟨a,q,_⟩=>lt_not_mem hall a q⟩,fun _=>.inl rfl⟩
       ·rw [un_right e]
        exact ⟨fun q=>q.elim (fun q=>absurd q e) id,.inr⟩
      ·rcases List.mem_cons.1 hx with rfl|hx
       ·exact .inl List.mem_cons_self
       ·rcases i3 x hx with q|⟨q1,q2⟩
        ·exact .inl (List.mem_cons_of_mem _ q)
        ·refine .inr ⟨q1,fun b q=>?_⟩
         rw [List.map_cons] at q
         rcases List.mem_cons.1 q with q|q
         ·have e:=congrArg Prod.fst q
          simp only at e
          have hm:x.1.1∈(mrg (y :: ys) zs).map (·.1.1):=List.mem_map.2 ⟨x,hx,rfl⟩
          have:=head _ _ (y :: ys) zs i2 hall hz.1 _ hm
          rw [e,swoA.irrefl] at this
          cases this
         ·exact q2 b q
     ·rename_i hc2
      have hkey:y.1.1=z.1.1:=cfA_same _ _ (Bool.eq_false_iff.2 fun q=>hc1 (cfA_neg.2 q)) (Bool.eq_false_iff.2 fun q=>hc2 (cfA_pos.2 q))
      obtain ⟨i1,i2,i3⟩:=ih (n - 2) (by omega) ys zs (by omega) (by rw [conv];exact hy.2) (by rw [conv];exact hz.2)
      have hzk:∀ u∈ys.map (·.1),ltOf cfA z.1.1 u.1=true:=fun u hu=>by rw [← hkey];exact hy.1 u hu
      have hno:¬ Un (ys.map (·.1)) (zs.map (·.1)) z.1.1:=un_no (lt_not_mem hzk) (lt_not_mem hz.1)
      have hpo:∀ x∈mrg ys zs,PutOf ((z :: zs).map (·.1)) x.1:=fun x hx=>by
       rcases i3 x hx with q|⟨q1,q2⟩
       ·exact .inl (List.mem_cons_of_mem _ q)
       ·refine .inr ⟨q1,fun b q=>?_⟩
        rw [List.map_cons] at q
        rcases List.mem_cons.1 q with q|q
        ·have e:=congrArg Prod.fst q
         simp only at e
         have hm:x.1.1∈(mrg ys zs).map (·.1.1):=List.mem_map.2 ⟨x,hx,rfl⟩
         rw [e] at hm
         exact hno ((i2 _).1 hm)
        ·exact q2 b q
      have hboth:∀ x,x≠z.1.1→(Un ((y :: ys).map (·.1)) ((z :: zs).map (·.1)) x ↔ Un (ys.map (·.1)) (zs.map (·.1)) x):=fun x e=>by
       rw [List.map_cons,List.map_cons,un_left (by rw [hkey];exact e),un_right e]
      have hat:Un ((y :: ys).map (·.1)) ((z :: zs).map (·.1)) z.1.1 ↔ ¬ csame y.1.2 z.1.2=true:=by
       constructor
       ·rintro (⟨b,q,h⟩|⟨_,h⟩) hs
        ·rw [List.map_cons] at q
         rcases List.mem_cons.1 q with q|q
         ·refine h ⟨y.1.2,?_,?_⟩
          ·rw [List.map_cons,← hkey];exact List.mem_cons_self
          ·have e:=congrArg Prod.snd q
           simp only at e
           rw [e];exact hs
         ·exact lt_not_mem hz.1 b q
        ·exact h z.1.2 (by rw [List.map_cons];exact List.mem_cons_self)
       ·intro hs
        refine .inl ⟨z.1.2,by rw [List.map_cons];exact List.mem_cons_self,fun ⟨a,q,h⟩=>?_⟩
        rw [List.map_cons] at q
        rcases List.mem_cons.1 q with q|q
        ·have e:=congrArg Prod.snd q
         simp only at e
         rw [e] at h
         exact hs h
        ·exact lt_not_mem hzk a q
      split
      ·rename_i hs
       refine ⟨i1,fun x=>?_,hpo⟩
       rw [i2]
       by_cases e:x=z.1.1
       ·subst e
        exact ⟨fun q=>absurd q hno,fun q=>absurd hs (hat.1 q)⟩
       ·exact (hboth x e).symm
      ·rename_i hs
       refine ⟨List.pairwise_cons.2 ⟨head _ _ ys zs i2 hzk hz.1,i1⟩,fun x=>?_,fun x hx=>?_⟩
       ·rw [List.map_cons,List.mem_cons,i2]
        by_cases e:x=z.1.1
        ·subst e
         exact ⟨fun _=>hat.2 hs,fun _=>.inl rfl⟩
        ·rw [hboth x e]
         exact ⟨fun q=>q.elim (fun q=>absurd q e) id,.inr⟩
       ·rcases List.mem_cons.1 hx with rfl|hx
        ·exact .inl (by rw [List.map_cons];exact List.mem_cons_self)
        ·exact hpo x hx
theorem puts_same {M:List Cc} (ho:M.Pairwise (fun x y=>x.1≠y.1)):∀ (A B:List Cc),Strict (A.map (·.1))→Strict (B.map (·.1))→(∀ x,x∈A.map (·.1) ↔ x∈B.map (·.1))→(∀ x∈A,PutOf M x)→(∀ x∈B,PutOf M x)→A=B:=by
 intro A B hA hB hm pA pB
 refine same_in_order hA hB fun x=>?_
 have one:∀ x y:Cc,x.1=y.1→PutOf M x→PutOf M y→x=y:=by
  rintro ⟨k,a⟩ ⟨_,b⟩ rfl h1 h2
  rcases h1 with h1|⟨h1,h1'⟩ <;> rcases h2 with h2|⟨h2,h2'⟩
  ·exact Prod.ext rfl (once_eq ho h1 h2)
  ·exact absurd h1 (h2' a)
  ·exact absurd h2 (h1' b)
  ·exact Prod.ext rfl (h1.trans h2.symm)
 have go:∀ A B:List Cc,(∀ x,x∈A.map (·.1) ↔ x∈B.map (·.1))→(∀ x∈A,PutOf M x)→(∀ x∈B,PutOf M x)→∀ x,x∈A→x∈B:=fun A B hm pA pB x hx=>by
  obtain ⟨y,hy,e⟩:=List.mem_map.1 ((hm x.1).1 (List.mem_map.2 ⟨x,hx,rfl⟩))
  rw [one x y e.symm (pA x hx) (pB y hy)]
  exact hy
 exact ⟨go A B hm pA pB x,go B A (fun x=>(hm x).symm) pB pA x⟩
structure BdI (P:Cc→Prop) (a:(Int×Int)×(Int×Int)):Prop where
 all:∀ x,P x→a.1.1≤x.1.1∧a.1.2≤x.1.2∧x.1.1≤a.2.1∧x.1.2≤a.2.2
 c1:a.1.1=256∨∃ x,P x∧x.1.1=a.1.1
 c2:a.1.2=4096∨∃ x,P x∧x.1.2=a.1.2
 c3:a.2.1=1∨∃ x,P x∧x.1.1=a.2.1
 c4:a.2.2=1∨∃ x,P x∧x.1.2=a.2.2
theorem BdI.step {P Q:Cc→Prop} {a:(Int×Int)×(Int×Int)} {x:Cc} (h:BdI P a) (hQ:∀ y,Q y→P y∨y.1=x.1) (hP:∀ y,P y→Q y) (hx:Q x):BdI Q (bndS a x.1):=by
 refine ⟨fun y hy=>?_,?_,?_,?_,?_⟩
 ·unfold bndS
  rcases hQ y hy with q|q
  ·have:=h.all y q
   simp only
   omega
  ·rw [q]
   simp only
   omega
 ·show min a.1.1 x.1.1=256∨∃ y,Q y∧y.1.1=min a.1.1 x.1.1
  rcases Int.le_total a.1.1 x.1.1 with q|q
  ·rw [Int.min_eq_left q]
   exact h.c1.imp id fun ⟨y,h1,h2⟩=>⟨y,hP y h1,h2⟩
  ·rw [Int.min_eq_right q]
   exact .inr ⟨x,hx,rfl⟩
 ·show min a.1.2 x.1.2=4096∨∃ y,Q y∧y.1.2=min a.1.2 x.1.2
  rcases Int.le_total a.1.2 x.1.2 with q|q
  ·rw [Int.min_eq_left q]
   exact h.c2.imp id fun ⟨y,h1,h2⟩=>⟨y,hP y h1,h2⟩
  ·rw [Int.min_eq_right q]
   exact .inr ⟨x,hx,rfl⟩
 ·show max a.2.1 x.1.1=1∨∃ y,Q y∧y.1.1=max a.2.1 x.1.1
  rcases Int.le_total a.2.1 x.1.1 with q|q
  ·rw [Int.max_eq_right q]
   exact .inr ⟨x,hx,rfl⟩
  ·rw [Int.max_eq_left q]
   exact h.c3.imp id fun ⟨y,h1,h2⟩=>⟨y,hP y h1,h2⟩
 ·show max a.2.2 x.1.2=1∨∃ y,Q y∧y.1.2=max a.2.2 x.1.2
  rcases Int.le_total a.2.2 x.1.2 with q|q
  ·rw [Int.max_eq_right q]
   exact .inr ⟨x,hx,rfl⟩
  ·rw [Int.max_eq_left q]
   exact h.c4.imp id fun ⟨y,h1,h2⟩=>⟨y,hP y h1,h2⟩
theorem BdI.first {P:Cc→Prop} {x:Cc} (hP:∀ y,P y ↔ y=x):BdI P (x.1,x.1):=by
 have hx:=(hP x).2 rfl
 exact ⟨fun y hy=>by rw [(hP y).1 hy];exact ⟨Int.le_refl _,Int.le_refl _,Int.le_refl _,Int.le_refl _⟩,.inr ⟨x,hx,rfl⟩,.inr ⟨x,hx,rfl⟩,.inr ⟨x,hx,rfl⟩,.inr ⟨x,hx,rfl⟩⟩
theorem BdI.uniq {P:Cc→Prop} {a b:(Int×Int)×(Int×Int)} (h:BdI P a) (k:BdI P b) (hv:∀ x,P x→vC x.1.1 x.1.2=true) (hne:∃ x,P x):a=b:=by
 have key:∀ {a b},BdI P a→BdI P b→a.1.1≤b.1.1∧a.1.2≤b.1.2∧b.2.1≤a.2.1∧b.2.2≤a.2.2:=fun {a b} h k=>by
  obtain ⟨x,hx⟩:=hne
  have e:=(vC_iff _ _).1 (hv x hx)
  have q:=h.all x hx
  refine ⟨?_,?_,?_,?_⟩
  ·rcases k.c1 with e1|⟨y,hy,e1⟩
   ·omega
   ·have:=h.all y hy;omega
  ·rcases k.c2 with e1|⟨y,hy,e1⟩
   ·omega
   ·have:=h.all y hy;omega
  ·rcases k.c3 with e1|⟨y,hy,e1⟩
   ·omega
   ·have:=h.all y hy;omega
  ·rcases k.c4 with e1|⟨y,hy,e1⟩
   ·omega
   ·have:=h.all y hy;omega
 have h1:=key h k
 have h2:=key k h
 obtain ⟨⟨a1,a2⟩,a3,a4⟩:=a
 obtain ⟨⟨b1,b2⟩,b3,b4⟩:=b
 simp only at h1 h2
 have e1:a1=b1:=by omega
 have e2:a2=b2:=by omega
 have e3:a3=b3:=by omega
 have e4:a4=b4:=by omega
 subst e1 e2 e3 e4
 rfl
theorem bndN_is {K:List Cc}:∀ i,i < K.length→BdI (fun x=>∃ j,j≤i∧K[j]? = some x) (bndN K i)
 | 0,h=>by
  have e:K[0]? = some K[0]:=List.getElem?_eq_getElem h
  rw [bndN,e]
  refine BdI.first fun y=>⟨?_,?_⟩
  ·rintro ⟨j,hj,hy⟩
   have:j=0:=by omega
   subst this
   rw [e] at hy
   exact (Option.some.inj hy).symm
  ·rintro rfl
   exact ⟨0,Nat.le_refl _,e⟩
 | i+1,h=>by
  have e:K[i+1]? = some K[i+1]:=List.getElem?_eq_getElem h
  rw [bndN,e]
  simp only
  have ih:=bndN_is (K:=K) i (by omega)
  refine ih.step (x:=K[i+1]) ?_ ?_ ⟨i+1,Nat.le_refl _,e⟩
  ·rintro y ⟨j,hj,hy⟩
   rcases Nat.lt_or_ge j (i+1) with q|q
   ·exact .inl ⟨j,by omega,hy⟩
   ·have:j=i+1:=by omega
    subst this
    rw [e] at hy
    exact .inr (by rw [Option.some.inj hy])
  ·rintro y ⟨j,hj,hy⟩
   exact ⟨j,by omega,hy⟩
theorem bnd_end {L K:List Cc} {a:(Int×Int)×(Int×Int)} (hal:Al L K) (hL:Ok17 L) (h0:0 < K.length) (h:BdI (fun x=>x∈L) a):a=bndN K (K.length - 1):=by
 have hb:=bndN_is (K:=K) (K.length - 1) (by omega)
 have hmem:∀ x,(∃ j,j≤K.length - 1∧K[j]? = some x) ↔ x∈L:=fun x=>by
  rw [← hal.mem]
  constructor
  ·rintro ⟨j,_,hj⟩
   exact List.mem_of_getElem? hj
  ·intro hx
   obtain ⟨j,hj,e⟩:=List.getElem_of_mem hx
   exact ⟨j,by omega,by rw [List.getElem?_eq_getElem hj,e]⟩
 have hb':BdI (fun x=>x∈L) (bndN K (K.length - 1)):=by
  have e:(fun x=>∃ j,j≤K.length - 1∧K[j]? = some x)=(fun x=>x∈L):=funext fun x=>propext (hmem x)
  rw [e] at hb
  exact hb
 refine h.uniq hb' (fun x hx=>hL.at' x hx) ?_
 obtain ⟨x,hx⟩:=List.exists_mem_of_length_pos h0
 exact ⟨x,(hal.mem x).1 hx⟩
structure BaR (w:World) (mv:Option Nat) (L:List Cc) (wr:World) (rem:List Cc) (a:(Int×Int)×(Int×Int)):Prop where
 rg:GRg wr w.heap.size mv (w.heap.size+1+1) rem
 sub:∀ x,x∈rem→x∈L
 bd:BdI (fun x=>x∈L∧x ∉ rem) a
 b0:Blk wr w.heap.size [.int .i64 0,.int .i64 0,.int .i64 0,.int .i64 0] 48
 b1:Blk wr (w.heap.size+1) (bndC a) 48
 kp:Kp w wr Nul
theorem BaR.bdn {w:World} {mv:Option Nat} {L:List Cc} {wr:World} {rem:List Cc} {a:(Int×Int)×(Int×Int)} (h:BaR w mv L wr rem a) {c s:Int} {ct:Ct} (hm:((c,s),ct)∈rem) :
  BdI (fun x=>x∈L∧x ∉ rem.filter (fun x=>decide (x.1≠(c,s)))) (bndS a (c,s)):=by
 have hL:=h.sub _ hm
 refine h.bd.step (x:=((c,s),ct)) (fun y=>?_) (fun y=>?_) ⟨hL,fun q=>by have:=of_decide_eq_true (List.mem_filter.1 q).2;exact this rfl⟩
 ·rintro ⟨h1,h2⟩
  by_cases e:y.1=(c,s)
  ·exact .inr e
  ·exact .inl ⟨h1,fun q=>h2 (List.mem_filter.2 ⟨q,decide_eq_true e⟩)⟩
 ·rintro ⟨h1,h2⟩
  exact ⟨h1,fun q=>h2 (List.mem_filter.1 q).1⟩
theorem bounds_any (g:Nat) (L K:List Cc) (w:World) (hg:GI 0 w g L) (hL:Ok17 L) (hal:Al L K) :
  Calls Tryz.prog 14 #[.pointer (some ⟨g,0,none⟩)] w fun e w'=>e=.returned (.tuple #[.agg (bndC (bndN K (K.length - 1))).toArray,.bool (decide (0 < K.length))])∧Kp w w' Nul:=by
 obtain ⟨mv,bg⟩:=hg.blk
 obtain ⟨W1,hW1⟩:∃ W1,w.alloc (.cells #[.int .i64 0,.int .i64 0,.int .i64 0,.int .i64 0] 48)=W1:=⟨_,rfl⟩
 have k1:Kp w W1 Nul:=by rw [← hW1];exact (Kp.refl w Nul).alloc _
 have s1:W1.heap.size=w.heap.size+1:=by rw [← hW1];exact World.size_alloc _ _
 have HB1:Hid (Blk W1 w.heap.size [.int .i64 0,.int .i64 0,.int .i64 0,.int .i64 0] 48):=by show Blk _ _ _ _;rw [← hW1];exact Blk.new w _ _
 have HW1:Hid (w.alloc (.cells #[.int .i64 0,.int .i64 0,.int .i64 0,.int .i64 0] 48)=W1):=hW1
 have HK1:Hid (Kp w W1 Nul):=k1
 have hL1:Hid (Calls Tryz.prog 15 #[.pointer (some ⟨g,0,none⟩)] W1 fun e w'=>e=.returned (.int .i64 L.length)∧w'=W1):=len_at W1 _ g L (hg.kp k1)
 have hlen:=hal.len
 rw [← hlen] at hL1
 obtain ⟨n,hn⟩:∃ n,K.length=n:=⟨_,rfl⟩
 rw [hn] at hL1 ⊢
 have HN:Hid (K.length=n∧n≤4096):=⟨hn,by have:=hL.len;omega⟩
 by_cases h0:n=0
 ·subst h0
  have HF:Hid (∀ Y,Kp W1 Y (fun i=>i=w.heap.size)→Ending.returned (.tuple #[.agg #[.int .i64 0,.int .i64 0,.int .i64 0,.int .i64 0],.bool false])=.returned (.tuple #[.agg (bndC (bndN K (0 - 1))).toArray,.bool (decide (0 < 0))])∧Kp w Y Nul):=fun Y k=>by
   have hk:K=[]:=List.eq_nil_of_length_eq_zero HN.out.1
   subst hk
   exact ⟨rfl,HK1.out.trans' k (fun i hi e=>by have e':i=w.heap.size:=e;omega)⟩
  clear hg hL hal bg hW1 k1 s1 hlen hn
  go_enter Tryz.func14,Tryz.ntmps14
  go_wp2_with fail
  rw [HW1.out]
  refine hL1.out.mono ?_
  rintro e w1 ⟨rfl,hz⟩
  replace hz:=hz.symm
  subst hz
  go_wp2_with (first|(refine wpList_store_blk rfl 48 (.tmp 2) (.tmp 9) rfl w.heap.size [.int .i64 0,.int .i64 0,.int .i64 0,.int .i64 0] [.int .i64 0,.int .i64 0,.int .i64 0,.int .i64 0] 48 HB1.out rfl rfl rfl infoArea4 (a4_ones 0 0 0 0) ?_;intro Y hbY hkY)|fail)
  refine bodyPost_ret (results_row_tmp rfl _ _ w.heap.size 48 _ (0,0) _ rfl hbY Tryz.underlying48 rfl infoArea4) rfl ?_
  exact HF.out Y hkY
 ·have hne:((n:Int) == 0)=false:=beq_eq_false_iff_ne.2 (by omega)
  have hn1:0 < n:=by omega
  obtain ⟨W2,hW2⟩:∃ W2,W1.alloc (.cells #[.int .i64 256,.int .i64 4096,.int .i64 1,.int .i64 1] 48)=W2:=⟨_,rfl⟩
  have k2:Kp W1 W2 Nul:=by rw [← hW2];exact (Kp.refl W1 Nul).alloc _
  have HS2:Hid (W2.heap.size=w.heap.size+1+1):=by show _=_;rw [← hW2,World.size_alloc,s1]
  have HB0:Hid (Blk W2 w.heap.size [.int .i64 0,.int .i64 0,.int .i64 0,.int .i64 0] 48):=HB1.out.kp k2 (fun x=>x)
  have HB2:Hid (Blk W2 (w.heap.size+1) (bndC ((256,4096),(1,1))) 48):=by show Blk _ _ _ _;rw [← s1,← hW2];exact Blk.new W1 _ _
  have HLow:Hid (GridIn W2 (fun b=>b < w.heap.size) g L):=(hg.low.kp k1).kp k2
  have HBg2:Hid (Blk W2 g [.map mv] 68):=(bg.kp k1 (fun x=>x)).kp k2 (fun x=>x)
  have cg:W2.cell? ⟨g,0,none⟩=some (.map mv):=HBg2.out.cell rfl
  have HK2:Hid (Kp w W2 Nul):=k1.trans k2
  have HE:Hid (∀ a,BdI (fun x=>x∈L) a→a=bndN K (n - 1)):=fun a h=>by rw [← hn];exact bnd_end hal hL (by omega) h
  have HW2:Hid (W1.alloc (.cells #[.int .i64 256,.int .i64 4096,.int .i64 1,.int .i64 1] 48)=W2):=hW2
  clear hg hL hal bg hW1 k1 hlen hn k2 hW2 HB1 HK1
  go_enter Tryz.func14,Tryz.ntmps14
  go_wp2_with fail
  rw [HW1.out]
  refine hL1.out.mono ?_
  rintro e w1 ⟨rfl,hz⟩
  replace hz:=hz.symm
  subst hz
  go_upto_region 4 with fail
  rw [HW2.out]
  clear HW2 s1 HW1
  go_wp2_with (first
   | (at_range;refine wpList_range_grid _ rfl _ rfl g L mv w.heap.size rfl HLow.out HBg2.out ?_;intro w0 hrg0 hg0 hs0)
   | fail)
  have HStart:Hid (BaR w mv L w0 L ((256,4096),(1,1))):=by
   rw [HS2.out] at hrg0
   have k0:Kp W2 w0 Nul:=Kp.of_grown hg0 (fun i e=>by cases e)
   exact ⟨hrg0,fun x h=>h,⟨fun x h=>absurd h.1 h.2,.inl rfl,.inl rfl,.inl rfl,.inl rfl⟩,HB0.out.kp k0 (fun x=>x),HB2.out.kp k0 (fun x=>x),HK2.out.trans k0⟩
  rw [HS2.out]
  clear hrg0 hg0 hs0 HLow HBg2 HB0 HB2 HS2 HK2 cg hL1
  go_frame
  go_loopw [] (fun wr=>∃ rem a,BaR w mv L wr rem a) (fun wr=>glen wr mv (w.heap.size+1+1))
  case atStart=>exact ⟨L,_,HStart.out⟩
  case round=>
   clear HStart
   obtain ⟨rem,a,hR⟩:=hrel
   have HR:Hid (BaR w mv L wr rem a):=hR
   have HRG:Hid (GRg wr w.heap.size mv (w.heap.size+1+1) rem):=hR.rg
   have hA2:w.heap.size≤w.heap.size+1+1:=by omega
   clear hR
   go_wp2_with (first
    | (at_next;refine wpList_next_grid _ rfl _ rfl w.heap.size mv (w.heap.size+1+1) rem rfl HRG.out hA2 ?_ ?_)
    | fail)
   ·intro hr0
    have HRA:Hid (wr.rangeAt (w.heap.size+1) 0 (bndC a)):=HR.out.b1.all
    have HF:Hid (∀ Y,Kp wr Y (fun i=>i=w.heap.size)→Ending.returned (.tuple #[.agg (bndC a).toArray,.bool true])=.returned (.tuple #[.agg (bndC (bndN K (n - 1))).toArray,.bool (decide (0 < n))])∧Kp w Y Nul):=fun Y k=>by
     rw [decide_eq_true hn1]
     have e:=HE.out a (by
      have h:=HR.out.bd
      have e:(fun x:Cc=>x∈L∧x ∉ ([]:List Cc))=fun x=>x∈L:=by funext x;simp
      rw [hr0,e] at h
      exact h)
     rw [← e]
     exact ⟨rfl,HR.out.kp.trans' k (fun i hi e=>by have e':i=w.heap.size:=e;omega)⟩
    have HB0:Hid (Blk wr w.heap.size [.int .i64 0,.int .i64 0,.int .i64 0,.int .i64 0] 48):=HR.out.b0
    clear hr0 HR HRG HE
    go_wp2_with (first
     | (refine wpList_load_mid rfl 48 (.tmp 4) rfl (w.heap.size+1) 0 rfl (bndC a) _ HRA.out Tryz.underlying48 rfl infoArea4 ?_)
     | (refine wpList_store_blk rfl 48 (.tmp 2) (.tmp 50) rfl w.heap.size [.int .i64 0,.int .i64 0,.int .i64 0,.int .i64 0] (bndC a) 48 HB0.out rfl rfl rfl infoArea4 (a4_ones a.1.1 a.1.2 a.2.1 a.2.2) ?_;intro Y hbY hkY)
     | fail)
    refine bodyPost_ret (results_row_tmp rfl _ _ w.heap.size 48 _ (0,0) _ rfl hbY Tryz.underlying48 rfl infoArea4) rfl ?_
    exact HF.out Y hkY
   ·intro c s ct sl w1 hmem hin hrg1 hlt1 hgr1 hsz1 hen
    have k1:Kp wr w1 (fun i=>i=w.heap.size+1+1):=Kp.of_grown hgr1 (fun i e=>by cases e;rfl)
    have HBd:Hid (BdI (fun x=>x∈L∧x ∉ rem.filter (fun x=>decide (x.1≠(c,s)))) (bndS a (c,s))):=HR.out.bdn hmem
    have HSub:Hid (∀ x,x∈rem.filter (fun x=>decide (x.1≠(c,s)))→x∈L):=fun x hx=>HR.out.sub x (List.mem_filter.1 hx).1
    have HG1:Hid (GRg w1 w.heap.size mv (w.heap.size+1+1) (rem.filter (fun x=>decide (x.1≠(c,s))))):=by show GRg _ _ _ _ _;simpa using hrg1
    have HLT:Hid (glen w1 mv (w.heap.size+1+1) < glen wr mv (w.heap.size+1+1)):=hlt1
    have HB01:Hid (Blk w1 w.heap.size [.int .i64 0,.int .i64 0,.int .i64 0,.int .i64 0] 48):=HR.out.b0.kp k1 (by show ¬ w.heap.size=w.heap.size+1+1;omega)
    have HB11:Hid (Blk w1 (w.heap.size+1) (bndC a) 48):=HR.out.b1.kp k1 (by show ¬ w.heap.size+1=w.heap.size+1+1;omega)
    have HK1:Hid (Kp w w1 Nul):=HR.out.kp.trans' k1 (fun i hi e=>by have:i=w.heap.size+1+1:=e;omega)
    obtain ⟨C,hC⟩:∃ C,w1.heap.size=C:=⟨_,rfl⟩
    have HAC:Hid (w.heap.size+1+1 < C):=by show _ < _;rw [← hC];exact HG1.out.lt
    obtain ⟨W5,hW5⟩:∃ W5,w1.alloc (.cells #[.int .i64 c,.int .i64 s] 36)=W5:=⟨_,rfl⟩
    have HW5:Hid (w1.alloc (.cells #[.int .i64 c,.int .i64 s] 36)=W5):=hW5
    have k5:Kp w1 W5 Nul:=by rw [← hW5];exact (Kp.refl _ _).alloc _
    have HK5:Hid (Kp w1 W5 Nul):=k5
    have HC5:Hid (Blk W5 C [.int .i64 c,.int .i64 s] 36):=by show Blk _ _ _ _;rw [← hW5,← hC];exact Blk.new w1 _ _
    obtain ⟨A,hA⟩:∃ A,w.heap.size+1=A:=⟨_,rfl⟩
    have HA:Hid (w.heap.size+1=A):=hA
    have HA5:Hid (Blk W5 A ([] ++ [.int .i64 a.1.1,.int .i64 a.1.2] ++ [.int .i64 a.2.1,.int .i64 a.2.2]) 48):=by show Blk _ _ _ _;rw [← hA];exact HB11.out.kp k5 (fun x=>x)
    have a0:W5.cell? ⟨A,0,none⟩=some (.int .i64 a.1.1):=HA5.out.cell rfl
    have a1:W5.cell? ⟨A,1,none⟩=some (.int .i64 a.1.2):=HA5.out.cell rfl
    have d0:W5.cell? ⟨C,0,none⟩=some (.int .i64 c):=HC5.out.cell rfl
    have d1:W5.cell? ⟨C,1,none⟩=some (.int .i64 s):=HC5.out.cell rfl
    rw [hsz1] at hC
    clear k1 hrg1 hlt1 hgr1 hmem hin k5 hW5 HRG HB11 hA
    go_upto_region 7 with fail
    rw [HW5.out,HA.out]
    go_upto_region 8 with (first|(refine wpList_store_part rfl 36 (.tmp 35) (.tmp 34) rfl A 0 [] [.int .i64 a.1.1,.int .i64 a.1.2] [.int .i64 a.2.1,.int .i64 a.2.2] [.int .i64 (min a.1.1 c),.int .i64 (min a.1.2 s)] 48 HA5.out rfl rfl rfl rfl infoAddr2 (a2_onesB (min a.1.1 c) (min a.1.2 s)) ?_;intro Y hbY hkY)|fail)
    have HA6:Hid (Blk Y A ([.int .i64 (min a.1.1 c),.int .i64 (min a.1.2 s)] ++ [.int .i64 a.2.1,.int .i64 a.2.2] ++ []) 48):=hbY
    have HC6:Hid (Blk Y C [.int .i64 c,.int .i64 s] 36):=HC5.out.kp hkY (fun e=>by have e':C=A:=e;have:=HAC.out;have:=HA.out;omega)
    have HK6:Hid (Kp w1 Y (fun i=>i=A)):=HK5.out.of_nul.trans hkY
    have b2:Y.cell? ⟨A,2,none⟩=some (.int .i64 a.2.1):=HA6.out.cell rfl
    have b3:Y.cell? ⟨A,3,none⟩=some (.int .i64 a.2.2):=HA6.out.cell rfl
    have e0:Y.cell? ⟨C,0,none⟩=some (.int .i64 c):=HC6.out.cell rfl
    have e1:Y.cell? ⟨C,1,none⟩=some (.int .i64 s):=HC6.out.cell rfl
    clear hbY hkY a0 a1 d0 d1 HW5
    go_wp2_with (first|(refine wpList_store_part rfl 36 (.tmp 49) (.tmp 48) rfl A 2 [.int .i64 (min a.1.1 c),.int .i64 (min a.1.2 s)] [.int .i64 a.2.1,.int .i64 a.2.2] [] [.int .i64 (max a.2.1 c),.int .i64 (max a.2.2 s)] 48 HA6.out rfl rfl rfl rfl infoAddr2 (a2_onesB (max a.2.1 c) (max a.2.2 s)) ?_;intro X hbX hkX)|fail)
    have HX:Hid (BaR w mv L X (rem.filter (fun x=>decide (x.1≠(c,s)))) (bndS a (c,s))∧glen X mv (w.heap.size+1+1) < glen wr mv (w.heap.size+1+1)):=by
     have hk:Kp w1 X (fun i=>i=A):=HK6.out.trans hkX
     have hA':=HA.out
     have b16:Below w.heap.size w1 X:=⟨hk.os,hk.tape,hk.output,hk.size,fun i hi=>hk.block i (by have:=HK1.out.size;omega) (fun e=>by have:i=A:=e;omega)⟩
     have r16:X.heap[w.heap.size+1+1]? = w1.heap[w.heap.size+1+1]?:=hk.block _ HG1.out.lt (fun e=>by have:w.heap.size+1+1=A:=e;omega)
     refine ⟨⟨HG1.out.keep b16 r16,HSub.out,HBd.out,HB01.out.kp hk (fun e=>by have:w.heap.size=A:=e;omega),by rw [hA'];exact hbX,HK1.out.trans' hk (fun i hi e=>by have:i=A:=e;omega)⟩,?_⟩
     rw [HG1.out.glen b16 r16];exact HLT.out
    clear hbX hkX
    obtain rfl:=HA.out
    go_roundw
    case rel=>repeat (first|exact ⟨⟨_,_,HX.out.1⟩,rfl⟩|apply Exists.intro)
    case measure=>exact HX.out.2
end Go.Proofs.YtlppcfeakakpfaaGreatDoor
