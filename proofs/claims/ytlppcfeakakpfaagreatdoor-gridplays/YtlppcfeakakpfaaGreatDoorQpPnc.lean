/- The document's Put. By wip/gen_pnc.py. -/
import Derived.Test.YtlppcfeakakpfaaGreatDoorQpIr
import Derived.Test.YtlppcfeakakpfaaGreatDoorQpPoa
import Derived.Laws.AppendOwnNone
import Derived.Deep.CutRange
import Derived.Deep.CutBlock
import Derived.Deep.DeepCutAuto
set_option maxRecDepth 20000
set_option maxHeartbeats 16000000
namespace Go.Proofs.YtlppcfeakakpfaaGreatDoor
open Go.RowKit Go.Maps Go.Sort Go.Lib Go.Shelf
structure DG (w:World) (B r:Nat) (v:Value) (ys:List (Cc×Value)):Prop where
 box:Blk w r [v] 31
 pts:Pts w B (fun _=>True) v ys
theorem DG.kp {w w':World} {B r:Nat} {v:Value} {ys:List (Cc×Value)} (h:DG w B r v ys) (k:Kp w w' Nul):DG w' B r v ys:=⟨h.box.kp k (fun x=>x),h.pts.kp k⟩
def rpE (V:Bool) (K:List Cc) (lo:Nat) (c s:Int) (ct:Ct):Nat:=if V=false then 1 else if vC c s=false then 20 else if ct.k≠0∧isK K lo (c,s)=false∧4096≤K.length then 41 else 0
def midC (c s:Int) (ct:Ct):List Cc:=if ct.k=0 then [] else [((c,s),cpC ct)]
theorem rpE_1 {K:List Cc} {lo:Nat} {c s:Int} {ct:Ct}:rpE false K lo c s ct=1:=if_pos rfl
theorem rpE_20 {K:List Cc} {lo:Nat} {c s:Int} {ct:Ct} (h:vC c s=false):rpE true K lo c s ct=20:=by unfold rpE;rw [if_neg (by decide),if_pos h]
theorem rpE_41 {K:List Cc} {lo:Nat} {c s:Int} {ct:Ct} (h:vC c s=true) (h1:ct.k≠0) (h2:isK K lo (c,s)=false) (h3:4096≤K.length):rpE true K lo c s ct=41:=by unfold rpE;rw [if_neg (by decide),if_neg (by rw [h];decide),if_pos ⟨h1,h2,h3⟩]
theorem rpE_0 {K:List Cc} {lo:Nat} {c s:Int} {ct:Ct} (h:vC c s=true) (h1:¬ (ct.k≠0∧isK K lo (c,s)=false∧4096≤K.length)):rpE true K lo c s ct=0:=by unfold rpE;rw [if_neg (by decide),if_neg (by rw [h];decide),if_neg h1]
theorem rowP_one {w:World} {F:Nat→Prop}:∀ {ys:List (Cc×Value)},(∀ y∈ys,NdIn w F y.2 y.1.2.t)→∀ u∈rowP ys,u.oneCell'=true
 | [],_,u,hu=>by simp [rowP] at hu
 | y :: ys,h,u,hu=>by
  rw [rowP] at hu
  rcases List.mem_append.1 hu with hu|hu
  ·exact pt_one y.1 (h y (by simp)).one u hu
  ·exact rowP_one (fun z hz=>h z (by simp [hz])) u hu
theorem rowR_kp {w w':World} {B B' k n r:Nat} {t:TypeId} {v:Value} {xs:List Value} (h:w.ownsRow B' t k v n xs) (hB:B≤B') (hk:Kp w w' (fun i=>i=r)) (hr:r < B'):w'.ownsRow B t k v n xs:=by
 refine ⟨h.1,?_⟩
 rcases h.2 with q|⟨g,c,cur,e,hb,hh,rest⟩
 ·exact .inl q
 ·exact .inr ⟨g,c,cur,e,Nat.le_trans hB hb,(hk.block g (Array.getElem?_eq_some_iff.1 hh).1 (fun e=>by have e':g=r:=e;omega)).trans hh,rest⟩
theorem no_int_one {w:World} {r n cp o:Nat} {p:Option Addr} {t:TypeId} {k:IntKind} {x:Int} (h:Blk w r [.slice p n cp] t) (hc:w.cell? ⟨r,o,none⟩=some (.int k x)):False:=by
 have e:=cell_of_row w r o _ _ _ h
 rw [hc] at e
 rcases o with _|o
 ·simp at e
 ·simp at e
theorem rowP_cut (ys:List (Cc×Value)) (k:Nat):rowP ys=rowP (ys.take k) ++ rowP (ys.drop k):=by rw [← rowP_append,List.take_append_drop]
theorem rput_at (B r:Nat) (v:Value) (ys:List (Cc×Value)) (K:List Cc) (c s:Int) (ct:Ct) (sl:Value) (V:Bool) (w:World) (hd:DG w B r v ys) (hK:ys.map (·.1)=K) (hB:B≤w.heap.size) (hn4:K.length≤4096) (hs:Strict (K.map (·.1)))
  (hV:∀ wq,Kp w wq Nul→Calls Tryz.prog 42 #[ct.val sl] wq fun e w'=>e=.returned (.bool V)∧Kp wq w' Nul)
  (hC:V=true→∀ wq,Kp w wq Nul→Calls Tryz.prog 45 #[ct.val sl] wq fun e w'=>∃ sl' fp,e=.returned ((cpC ct).val sl')∧Own w' wq.heap.size sl' (cpC ct).t fp∧Kp wq w' Nul) (hone:sl.oneCell'=true) :
  Calls Tryz.prog 21 #[.pointer (some ⟨r,0,none⟩),.agg #[.int .i64 c,.int .i64 s],ct.val sl] w fun e w'=>∃ lo v' ys',Place K (c,s) lo∧e=.returned (.int .i64 (rpE V K lo c s ct:Nat))∧DG w' B r v' ys'∧ys'.map (·.1)=(if rpE V K lo c s ct=0 then insK K (c,s) lo (midC c s ct) else K)∧Kp w w' (fun i=>i=r):=by
 obtain ⟨p,cp,rfl,hp⟩:=hd.pts.slice
 obtain ⟨n,hn⟩:∃ n,ys.length=n:=⟨_,rfl⟩
 have hKn:K.length=n:=by rw [← hK,List.length_map,hn]
 obtain ⟨W,hW⟩:∃ W,(w.alloc (.cells #[.int .i64 c,.int .i64 s] 36)).alloc (.cells (ct.cells sl).toArray 46)=W:=⟨_,rfl⟩
 have HW:Hid ((w.alloc (.cells #[.int .i64 c,.int .i64 s] 36)).alloc (.cells (ct.cells sl).toArray 46)=W):=hW
 have kW:Kp w W Nul:=by rw [← hW];exact ((Kp.refl _ _).alloc _).alloc _
 have HCS:Hid (∀ wq,Kp W wq Nul→Blk wq w.heap.size [.int .i64 c,.int .i64 s] 36):=fun wq k=>by
  have:Blk W w.heap.size [.int .i64 c,.int .i64 s] 36:=by rw [← hW];exact (Blk.new w _ _).alloc _
  exact this.kp k (fun x=>x)
 have HCT:Hid (∀ wq,Kp W wq Nul→Blk wq (w.heap.size+1) (ct.cells sl) 46):=fun wq k=>by
  have:Blk W (w.heap.size+1) (ct.cells sl) 46:=by
   have h:=Blk.new (w.alloc (.cells #[.int .i64 c,.int .i64 s] 36)) (ct.cells sl) 46
   rw [World.size_alloc] at h
   rw [← hW];exact h
  exact this.kp k (fun x=>x)
 have HDG:Hid (∀ wq,Kp W wq Nul→DG wq B r (.slice p ys.length cp) ys):=fun wq k=>hd.kp (kW.trans k)
 have HV:Hid (∀ wq,Kp W wq Nul→Calls Tryz.prog 42 #[.agg (ct.cells sl).toArray] wq fun e w'=>e=.returned (.bool V)∧Kp wq w' Nul):=fun wq k=>hV wq (kW.trans k)
 have HVA:Hid (∀ wq,Calls Tryz.prog 43 #[.agg #[.int .i64 c,.int .i64 s]] wq fun e w'=>e=.returned (.bool (vC c s))∧Kp wq w' Nul):=fun wq=>(rValid_any c s wq).mono fun e w' h=>⟨h.1,Kp.of_gr h.2⟩
 have HPl:Hid (∀ wq,Kp W wq Nul→Calls Tryz.prog 44 #[.pointer (some ⟨r,0,none⟩),.agg #[.int .i64 c,.int .i64 s]] wq fun e w'=>(∃ lo,e=.returned (.tuple #[.int .i64 (lo:Nat),.bool (isK K lo (c,s))])∧Place K (c,s) lo)∧Kp wq w' Nul):=fun wq k0=>by
  refine place_at r n cp p K c s wq hKn (by omega) hs (fun wz k=>?_) (fun i x hx=>?_)
  ·have h:=(HDG.out wz (k0.trans k)).box.cell (i:=0) rfl
   rw [hn] at h
   exact h
  ·obtain ⟨y,hy,e⟩:∃ y,ys[i]? = some y∧y.1=x:=by
    rw [← hK,List.getElem?_map] at hx
    cases hy:ys[i]? with
    | none=>rw [hy] at hx;cases hx
    | some y=>rw [hy] at hx;injection hx with hx;exact ⟨y,rfl,hx⟩
   obtain ⟨b,e1,_,_⟩:=hp (by have:=(List.getElem?_eq_some_iff.1 hy).1;omega)
   refine ⟨b,e1,fun wz k=>?_⟩
   obtain ⟨p',c',e2,hp'⟩:=(HDG.out wz (k0.trans k)).pts.slice
   injection e2 with e3 _ e4
   obtain ⟨b',e5,_,hr⟩:=hp' (by have:=(List.getElem?_eq_some_iff.1 hy).1;omega)
   have hbb:b'=b:=by rw [← e3,e1] at e5;injection e5 with e5;injection e5 with e5;exact e5.symm
   subst hbb
   subst e
   exact (pt_parts (hr i y hy)).1
 have HNul:Hid (∀ wq,Kp W wq Nul→Kp w wq (fun i=>i=r)):=fun wq k=>(kW.trans k).of_nul
 have HO:Hid (sl.oneCell'=true):=hone
 have HN:Hid (ys.length=n∧K.length=n∧n≤4096∧ys.map (·.1)=K):=⟨hn,hKn,by omega,hK⟩
 have HCp:Hid (V=true→∀ wq,Kp W wq Nul→Calls Tryz.prog 45 #[.agg (ct.cells sl).toArray] wq fun e w'=>∃ sl' fp,e=.returned ((cpC ct).val sl')∧Own w' wq.heap.size sl' (cpC ct).t fp∧Kp wq w' Nul):=fun h wq k=>hC h wq (kW.trans k)
 have HBW:Hid (B≤W.heap.size∧w.heap.size≤W.heap.size):=⟨Nat.le_trans hB kW.size,kW.size⟩
 have HSt:Hid (Strict (K.map (·.1))):=hs
 clear hd hK hB hn4 hs hV hC hone hW kW hp hn hKn
 go_enter Tryz.func21,Tryz.ntmps21
 go_wp2_with (first
  | (rw [HW.out])
  | (refine load_content_law rfl (.tmp 5) rfl (w.heap.size+1) rfl (ct.cells sl).toArray (HCT.out _ (Kp.refl W Nul)) rfl ?_)
  | fail)
 refine (HV.out W (Kp.refl _ _)).mono ?_
 rintro e w1 ⟨rfl,k1⟩
 have K1:Hid (Kp W w1 Nul):=k1
 clear k1 HV HW
 have zc:=HCS.out w1 K1.out
 have y0:=zc.cell (i:=0) rfl
 have y1:=zc.cell (i:=1) rfl
 clear zc
 go_wp2_with fail
 refine (HVA.out w1).mono ?_
 rintro e w2 ⟨rfl,k2⟩
 have K2:Hid (Kp W w2 Nul):=K1.out.trans k2
 clear k2 y0 y1 K1 HVA
 have zc:=HCS.out w2 K2.out
 have y0:=zc.cell (i:=0) rfl
 have y1:=zc.cell (i:=1) rfl
 clear zc
 go_wp2_with fail
 refine (HPl.out w2 K2.out).mono ?_
 rintro e w3 ⟨⟨lo,rfl,hpl⟩,k3⟩
 have K3:Hid (Kp W w3 Nul):=K2.out.trans k3
 have HP:Hid (Place K (c,s) lo):=hpl
 obtain ⟨I,hI⟩:∃ I,isK K lo (c,s)=I:=⟨_,rfl⟩
 have HI:Hid (isK K lo (c,s)=I):=hI
 obtain ⟨VA,hVA⟩:∃ VA,vC c s=VA:=⟨_,rfl⟩
 have HVA:Hid (vC c s=VA):=hVA
 rw [hI,hVA]
 clear k3 y0 y1 K2 HPl hpl hI hVA
 cases V with
 | false=>
  go_wp2_with fail
  go_ret
  refine ⟨lo,_,_,HP.out,?_,HDG.out w3 K3.out,?_,HNul.out _ K3.out⟩
  ·rw [rpE_1];rfl
  ·rw [rpE_1,if_neg (by decide)];exact HN.out.2.2.2
 | true=>
 cases VA with
 | false=>
  go_wp2_with fail
  go_ret
  refine ⟨lo,_,_,HP.out,?_,HDG.out w3 K3.out,?_,HNul.out _ K3.out⟩
  ·rw [rpE_20 HVA.out];rfl
  ·rw [rpE_20 HVA.out,if_neg (by decide)];exact HN.out.2.2.2
 | true=>
 obtain ⟨kk,hkk⟩:∃ kk,ct.k=kk:=⟨_,rfl⟩
 have HKK:Hid (ct.k=kk):=hkk
 have c0:w3.cell? ⟨w.heap.size+1,0,none⟩=some (.int .i64 kk):=by rw [← hkk];exact (HCT.out w3 K3.out).cell rfl
 have r0:w3.cell? ⟨r,0,none⟩=some (.slice p n cp):=by have h:=(HDG.out w3 K3.out).box.cell (i:=0) rfl;rw [HN.out.1] at h;exact h
 clear hkk
 by_cases hfull:kk≠0∧I=false∧4096≤n
 ·obtain ⟨q1,q2,q3⟩:=hfull
  have q1':(kk != 0)=true:=by simpa using q1
  have q3':(4096:Int)≤(n:Int):=by omega
  have HE:Hid (rpE true K lo c s ct=41):=rpE_41 HVA.out (by rw [HKK.out];exact q1) (by rw [HI.out];exact q2) (by rw [HN.out.2.1];exact q3)
  subst q2
  clear q1 q3
  go_wp2_with fail
  go_ret
  refine ⟨lo,_,_,HP.out,?_,HDG.out w3 K3.out,?_,HNul.out _ K3.out⟩
  ·rw [HE.out];rfl
  ·rw [HE.out,if_neg (by decide)];exact HN.out.2.2.2
 ·have HE:Hid (rpE true K lo c s ct=0):=rpE_0 HVA.out (by rw [HKK.out,HI.out,HN.out.2.1];exact hfull)
  have HF:Hid (¬ (kk≠0∧I=false∧4096≤n)):=hfull
  clear hfull
  go_upto_block 0 with fail
  go_cut [22] (fun _ wx=>wx=w3)
  case first=>
   by_cases q1:kk=0
   ·subst q1
    go_wp2_with fail
    go_meet
    case rel=>rfl
   ·have q1':(kk != 0)=true:=by simpa using q1
    cases I with
    | true=>
     go_wp2_with fail
     go_meet
     case rel=>rfl
    | false=>
     have q3:¬ (4096:Int)≤(n:Int):=by
      have:=HF.out
      intro h
      exact this ⟨q1,rfl,by omega⟩
     go_wp2_with fail
     go_meet
     case rel=>rfl
  case rest=>
   replace hcut:=hcut.symm
   subst hcut
   have HLo:Hid (lo≤n):=by have:=HP.out.le;have:=HN.out.2.1;show _≤_;omega
   obtain ⟨i0,hi,hz0,hz1,hz2⟩:=infoPutI
   rcases (HDG.out W (Kp.refl _ _)).pts.row.2 with ⟨e,h0⟩|⟨b,cq,cur,e,hbB,hbb,hcq,_⟩
   ·injection e with e1 e2 e3
    subst e1
    subst e3
    have hys:ys=[]:=List.length_eq_zero_iff.1 e2
    subst hys
    have hK0:K=[]:=HN.out.2.2.2.symm
    have hn0:n=0:=HN.out.1.symm
    have hlo0:lo=0:=by have:=HLo.out;omega
    have hI0:I=false:=by rw [← HI.out,hK0];unfold isK;simp
    clear e2 h0
    subst hn0
    subst hlo0
    subst hI0
    have HK0:Hid (K=[]):=hK0
    have HSN:Hid (∀ wq,Src Tryz.prog i0.size 29 (.slice none 0 0) 0 [] wq):=fun wq=>Src.ofNil wq Tryz.underlying29 0
    have HAP1:Hid ((Builtin.append_ #[29,29] 29 #[.slice none 0 0,.slice none 0 0]).run Tryz.prog w3=.ok (.slice none 0 0) w3):=run_append_nothing w3 29 29 29 84 i0 Tryz.underlying29 hi none 0 0 (Nat.le_refl _) _ (HSN.out w3)
    have HOWn:Hid (w3.ownsRow W.heap.size 84 23 (.slice none 0 0) 0 (rowP (([]:List (Cc×Value)).take 0))):=World.ownsRow_nil w3 W.heap.size _ _
    clear hK0
    go_upto_if 54 with (first
     | (at_builtin;refine wpList_append_eq' rfl (.tmp 44) (.tmp 50) 29 29 rfl (.slice none 0 0) (.slice none 0 0) (.slice none 0 0) w3 rfl rfl (by with_reducible exact HAP1.out) ?_)
     | fail)
    clear c0
    go_cut [11] (fun v5 wx=>∃ z:List (Cc×Value),wx.ownsRow W.heap.size 84 23 v5 z.length (rowP z)∧z.map (·.1)=midC c s ct∧(∀ y∈z,NdIn wx (fun i=>¬ v5.ownBlock=some i) y.2 y.1.2.t)∧Kp W wx Nul)
    case first=>
     by_cases q1:kk=0
     ·subst q1
      have HM:Hid (midC c s ct=[]):=if_pos HKK.out
      go_wp2_with fail
      go_meet
      case rel=>exact ⟨[],HOWn.out,HM.out.symm,fun y hy=>by simp at hy,K3.out⟩
     ·have q1':(kk != 0)=true:=by simpa using q1
      have HM:Hid (midC c s ct=[((c,s),cpC ct)]):=if_neg (by rw [HKK.out];exact q1)
      go_wp2_with fail
      refine wp_region_noPanic ?_
      refine wp_region_hel (fun w':World=>Kp W w' Nul) (by kernel_rfl) (K3.out.drew) (fun hHeld=>?_)
      refine wpH_takes (i:=0) (v:=(Value.slice none 0 0)) (some 55) rfl rfl (by kernel_rfl) (by kernel_rfl) (by kernel_rfl) (fun _ _ _ h=>h) (Or.inl ⟨by rfl,?_⟩) hHeld ?_
      ·intro w' hSw;clear hSw;go_simp
      simp only [Act.put,List.setIfInBounds_toArray,List.set_cons_zero,List.set_cons_succ]
      refine wpH_takes (i:=1) (v:=.agg #[.int .i64 c,.int .i64 s]) (some 56) rfl rfl (by kernel_rfl) (by kernel_rfl) (by kernel_rfl) (fun _ _ _ h=>h) (Or.inl ⟨by rfl,fun w' hSw=>exec_load_row 36 (.tmp 4) rfl w.heap.size 0 rfl [.int .i64 c,.int .i64 s] _ (blk_range (HCS.out w' hSw)) Tryz.underlying36 rfl infoAddr2⟩) hHeld ?_
      simp only [Act.put,List.setIfInBounds_toArray,List.set_cons_zero,List.set_cons_succ]
      refine wpH_takes (i:=2) (v:=.agg (ct.cells sl).toArray) (some 57) rfl rfl (by kernel_rfl) (by kernel_rfl) (by kernel_rfl) (fun _ _ _ h=>h) (Or.inl ⟨by rfl,fun w' hSw=>exec_load_content _ rfl rfl (HCT.out w' hSw) rfl⟩) hHeld ?_
      simp only [Act.put,List.setIfInBounds_toArray,List.set_cons_zero,List.set_cons_succ]
      refine wpH_step (i:=3) (by kernel_rfl) rfl rfl (fun K hK=>?_)
      go_simp
      refine (HCp.out (by trivial) _ K3.out.drew).mono ?_
      rintro e w5 ⟨sl5,fp5,rfl,ho5,hk2⟩
      have KD:Hid (Kp w3 w5 Nul):=((Kp.refl w3 Nul).drew).trans hk2
      have K5:Hid (Kp W w5 Nul):=K3.out.trans KD.out
      have HO5:Hid (Own w5 w3.drew.heap.size sl5 (cpC ct).t fp5):=ho5
      have O5:Hid (sl5.oneCell'=true):=ho5.own.one
      refine hK.out _ _ K5.out (fun hHeld=>?_)
      clear hK K hk2 ho5
      (try simp only [Act.put,List.setIfInBounds_toArray,List.set_cons_zero,List.set_cons_succ])
      refine wpH_takes (i:=4) (v:=.agg (ptCells ((c,s),cpC ct) sl5).toArray) (some 59) rfl rfl (by kernel_rfl) (by kernel_rfl) (by kernel_rfl) (fun _ _ _ h=>h) (Or.inl ⟨by rfl,?_⟩) hHeld ?_
      ·intro w' hSw;clear hSw;go_simp;try rfl
      simp only [Act.put,List.setIfInBounds_toArray,List.set_cons_zero,List.set_cons_succ]
      have HB5:Hid (Blk (w5.alloc (.cells (ptCells ((c,s),cpC ct) sl5).toArray 84)) w5.heap.size (ptCells ((c,s),cpC ct) sl5) 84):=Blk.new w5 _ _
      have HRw:Hid ((w5.alloc (.cells (ptCells ((c,s),cpC ct) sl5).toArray 84)).ownsRow W.heap.size 84 23 (Value.slice none 0 0) 0 (rowP (([]:List (Cc×Value)).take 0))):=(ownsRow_below HOWn.out (KD.out.alloc (.cells (ptCells ((c,s),cpC ct) sl5).toArray 84)).below)
      refine wpH_step (i:=5) (by kernel_rfl) rfl rfl (fun K hK=>?_)
      go_simp
      refine hK.out _ _ (K5.out.alloc _) (fun hHeld=>?_)
      clear hK K
      (try simp only [Act.put,List.setIfInBounds_toArray,List.set_cons_zero,List.set_cons_succ])
      refine wpH_step (i:=6) (by kernel_rfl) rfl rfl (fun K hK=>?_)
      refine wp_append_tell _ (.tmp 55) (.tmp 60) 29 rfl W.heap.size 84 i0 _ 23 200 Tryz.underlying29 hi hz0 hz1 hz2 rfl (by decide) (Value.slice none 0 0) 0 (rowP (([]:List (Cc×Value)).take 0)) rfl HRw.out ⟨w5.heap.size,0,none⟩ 1 1 (ptCells ((c,s),cpC ct) sl5) rfl rfl ?d1 ?d2 (by decide) ?d3 ?d4 ?d5 ?_
      case d1=>
       intro j u hj
       rw [addr_at,Nat.zero_add]
       exact HB5.out.cell hj
      case d2=>exact pt_one _ O5.out
      case d3=>have:=HLo.out;have:=HN.out.2.2.1;unfold maxLen;omega
      case d4=>have:=HLo.out;have:=HN.out.2.2.1;omega
      case d5=>exact (K5.out.alloc (.cells (ptCells ((c,s),cpC ct) sl5).toArray 84)).size
      intro g6 c6 w6 hown6 hgrow6 ht6
      have K6:Hid (Kp W w6 Nul):=Kp.of_below ((K5.out.alloc (.cells (ptCells ((c,s),cpC ct) sl5).toArray 84)).below.grown hgrow6 (K5.out.alloc (.cells (ptCells ((c,s),cpC ct) sl5).toArray 84)).size (fun q hq=>(HRw.out.lt q hq).1))
      have hkg:Kp (w5.alloc (.cells (ptCells ((c,s),cpC ct) sl5).toArray 84)) w6 (fun i=>(Value.slice none 0 0).ownBlock=some i):=⟨hgrow6.os,hgrow6.tape,hgrow6.output,hgrow6.size,fun k hk hn=>hgrow6.block k hk (fun e=>hn e.symm)⟩
      have HNd:Hid (NdIn w6 (fun i=>¬ (Value.slice (some ⟨g6,0,none⟩) (0+1) c6).ownBlock=some i) sl5 (cpC ct).t):=((HO5.out.isIn.kp ((Kp.refl w5 Nul).alloc (.cells (ptCells ((c,s),cpC ct) sl5).toArray 84)) (fun _ _ x=>x)).kp hkg (fun i hi e=>by have h1:=(HOWn.out.lt i e).2;have h2:w3.heap.size≤i:=hi.1;omega)).mono (fun b hb hl=>⟨rfl,fun e=>by
       have e':g6=b:=by simpa [Value.ownBlock] using e
       have hb1:w3.heap.size≤b:=hb.1
       have hb2:=hb.2
       rcases ht6 with q|q
       ·have:=(HOWn.out.lt g6 q).2;omega
       ·rw [World.size_alloc] at q;omega⟩)
      have HOW6:Hid (w6.ownsRow W.heap.size 84 23 (.slice (some ⟨g6,0,none⟩) (0+1) c6) (0+1) (rowP ([(((c,s),cpC ct),sl5)]))):=by have h:=hown6;simp only [List.take_nil,rowP,List.nil_append] at h;show World.ownsRow _ _ _ _ _ _ _;simp only [rowP,List.append_nil];exact h
      refine hK.out _ _ K6.out (fun hHeld=>?_)
      clear hK K hown6 hgrow6 hkg
      show wpAnyH _ _ _ _ _ _ _ (Act.put _ (some 61) _) _
      simp only [Act.put,List.setIfInBounds_toArray,List.set_cons_zero,List.set_cons_succ]
      refine wpH_takes (i:=7) (v:=.slice (some ⟨g6,0,none⟩) (0+1) c6) (some 11) rfl rfl (by kernel_rfl) (by kernel_rfl) (by kernel_rfl) (fun _ _ _ h=>h) (Or.inl ⟨by rfl,?_⟩) hHeld ?_
      ·intro w' hSw;clear hSw;go_simp
      simp only [Act.put,List.setIfInBounds_toArray,List.set_cons_zero,List.set_cons_succ]
      refine wpAnyH_done (by kernel_rfl) ?_ _
      refine NoPanic.normal ?_
      go_wp2_with fail
      go_meet
      case rel=>exact ⟨[(((c,s),cpC ct),sl5)],HOW6.out,HM.out.symm,fun y hy=>by obtain rfl:=List.mem_singleton.1 hy;exact HNd.out,K6.out⟩
    case rest=>
     obtain ⟨z,hz1',hz2',hz3',hz4'⟩:=hcut
     rename World=>w6
     have K6:Hid (Kp W w6 Nul):=hz4'
     have HOW:Hid (w6.ownsRow W.heap.size 84 23 u11 z.length (rowP z)):=hz1'
     have HZK:Hid (z.map (·.1)=midC c s ct):=hz2'
     have HZT:Hid (∀ y∈z,NdIn w6 (fun i=>¬ u11.ownBlock=some i) y.2 y.1.2.t):=hz3'
     obtain ⟨pu,cu,hu11,hcu⟩:∃ pu cu,u11=.slice pu z.length cu∧z.length≤cu:=by
      rcases hz1'.2 with ⟨q,q2⟩|⟨g7,c7,_,q,_,_,q2,_⟩
      ·rw [q2] at *;exact ⟨_,_,q,Nat.le_refl _⟩
      ·exact ⟨_,_,q,q2⟩
     have HAP2:Hid ((Builtin.append_ #[29,29] 29 #[.slice pu z.length cu,.slice none 0 0]).run Tryz.prog w6=.ok (.slice pu z.length cu) w6):=run_append_nothing w6 29 29 29 84 i0 Tryz.underlying29 hi pu z.length cu hcu _ (HSN.out w6)
     have r6:w6.cell? ⟨r,0,none⟩=some (.slice none 0 0):=(HDG.out w6 K6.out).box.cell (i:=0) rfl
     have HRW:Hid (r < W.heap.size):=(HDG.out W (Kp.refl _ _)).box.lt
     have HB6:Hid (Blk w6 r [.slice none 0 0] 31):=(HDG.out w6 K6.out).box
     clear hz1' hz2' hz3' hz4' hcu r0
     subst hu11
     have f6:w6.frozen? ⟨r,0,none⟩=false:=HB6.out.froz 0
     have HbY:Hid (Blk (w6.setCell ⟨r,0,none⟩ (.slice pu z.length cu)) r [.slice pu z.length cu] 31):=HB6.out.set 0 _
     have HkY:Hid (Kp w6 (w6.setCell ⟨r,0,none⟩ (.slice pu z.length cu)) (fun i=>i=r)):=(Kp.refl w6 (fun i=>i=r)).setCell ⟨r,0,none⟩ _ (.inr rfl)
     go_upto_if 62 with fail
     go_wp2_with (first
      | (at_builtin;refine wpList_append_eq' rfl (.tmp 66) (.tmp 72) 29 29 rfl (.slice pu z.length cu) (.slice none 0 0) (.slice pu z.length cu) w6 rfl rfl (by with_reducible exact HAP2.out) ?_)
      | fail)
     have hbY:=HbY.out
     have hkY:=HkY.out
     go_ret
     refine ⟨0,HP.out,?_,_,z,⟨hbY,⟨rowR_kp HOW.out HBW.out.1 hkY HRW.out,fun y hy=>((HZT.out y hy).mono (fun b hb hl=>⟨rfl,trivial⟩)).monoC fun b' hb' hc=>?_⟩⟩,?_,(HNul.out w6 K6.out).trans hkY⟩
     ·rw [HE.out];rfl
     ·obtain ⟨o,q,x,hc⟩:=hc
      refine ⟨hkY.block b' (cell_lt hc) (fun e=>?_),trivial⟩
      have e':b'=r:=e
      subst e'
      exact no_int_one HB6.out hc
     ·rw [HE.out,if_pos rfl,HK0.out]
      unfold insK
      rw [HZK.out]
      simp
   ·injection e with e1 e2 e3
    subst e1
    have hcn:n≤cp:=by rw [← HN.out.1,e3];exact hcq
    have HCells:Hid (∀ wq,Kp W wq Nul→∀ j u,(rowP ys)[j]? = some u→wq.cell? ⟨b,j,none⟩=some u):=fun wq k j u hj=>by
     have h:=(HDG.out wq k).pts.row.cells (g:=b) rfl j u hj
     rw [addr_at,Nat.zero_add] at h
     exact h
    have HOne:Hid (∀ u∈rowP ys,u.oneCell'=true):=rowP_one (HDG.out W (Kp.refl _ _)).pts.tree
    have hlc:(lo:Int)≤(cp:Int):=by have:=HLo.out;omega
    have HCN:Hid (n≤cp):=hcn
    clear e2 e3 hbB hbb hcq hcn
    go_wp2_with (at_builtin;refine wpList_append_own _ rfl (.tmp 44) (.tmp 50) 29 rfl W.heap.size 84 i0 _ 23 200 Tryz.underlying29 hi hz0 hz1 hz2 rfl (by decide) _ _ _ rfl (World.ownsRow_nil w3 W.heap.size _ _) ⟨b,0,none⟩ lo cp (rowP (ys.take lo)) rfl ?n1 ?n2 ?n3 ?n4 ?n5 ?n6 ?_)
    case n1=>rw [rowP_len,List.length_take];have:=HLo.out;have:=HN.out.1;omega
    case n2=>
     intro j u hj
     rw [addr_at,Nat.zero_add]
     exact HCells.out _ K3.out j u (by rw [rowP_cut ys lo,List.getElem?_append_left (List.getElem?_eq_some_iff.1 hj).1];exact hj)
    case n3=>intro u hu;exact HOne.out u (by rw [rowP_cut ys lo];exact List.mem_append_left _ hu)
    case n4=>have:=HLo.out;have:=HN.out.2.2.1;unfold maxLen;omega
    case n5=>have:=HLo.out;have:=HN.out.2.2.1;omega
    case n6=>exact K3.out.size
    ·intro v4 w4 hown4 hgrow4 _
     have K4:Hid (Kp W w4 Nul):=Kp.of_below (K3.out.below.grown hgrow4 K3.out.size (fun q hq=>by cases hq))
     have HOW4:Hid (w4.ownsRow W.heap.size 84 23 v4 lo (rowP (ys.take lo))):=hown4
     clear hown4 hgrow4 c0 r0
     have c0:w4.cell? ⟨w.heap.size+1,0,none⟩=some (.int .i64 kk):=by rw [← HKK.out];exact (HCT.out w4 K4.out).cell rfl
     go_upto_if 54 with fail
     clear c0
     go_cut [11] (fun v5 wx=>∃ z:List (Cc×Value),wx.ownsRow W.heap.size 84 23 v5 (ys.take lo ++ z).length (rowP (ys.take lo ++ z))∧z.map (·.1)=midC c s ct∧(∀ y∈z,NdIn wx (fun i=>¬ v5.ownBlock=some i) y.2 y.1.2.t)∧Kp W wx Nul)
     case first=>
      have hlt:(ys.take lo).length=lo:=by rw [List.length_take];have:=HLo.out;have:=HN.out.1;omega
      by_cases q1:kk=0
      ·subst q1
       have HM:Hid (midC c s ct=[]):=if_pos HKK.out
       go_wp2_with fail
       go_meet
       case rel=>exact ⟨[],by rw [List.append_nil,hlt];exact HOW4.out,HM.out.symm,fun y hy=>by simp at hy,K4.out⟩
      ·have q1':(kk != 0)=true:=by simpa using q1
       have HM:Hid (midC c s ct=[((c,s),cpC ct)]):=if_neg (by rw [HKK.out];exact q1)
       go_wp2_with fail
       refine wp_region_noPanic ?_
       refine wp_region_hel (fun w':World=>Kp W w' Nul) (by kernel_rfl) (K4.out.drew) (fun hHeld=>?_)
       refine wpH_takes (i:=0) (v:=v4) (some 55) rfl rfl (by kernel_rfl) (by kernel_rfl) (by kernel_rfl) (fun _ _ _ h=>h) (Or.inl ⟨by rfl,?_⟩) hHeld ?_
       ·intro w' hSw;clear hSw;go_simp
       simp only [Act.put,List.setIfInBounds_toArray,List.set_cons_zero,List.set_cons_succ]
       refine wpH_takes (i:=1) (v:=.agg #[.int .i64 c,.int .i64 s]) (some 56) rfl rfl (by kernel_rfl) (by kernel_rfl) (by kernel_rfl) (fun _ _ _ h=>h) (Or.inl ⟨by rfl,fun w' hSw=>exec_load_row 36 (.tmp 4) rfl w.heap.size 0 rfl [.int .i64 c,.int .i64 s] _ (blk_range (HCS.out w' hSw)) Tryz.underlying36 rfl infoAddr2⟩) hHeld ?_
       simp only [Act.put,List.setIfInBounds_toArray,List.set_cons_zero,List.set_cons_succ]
       refine wpH_takes (i:=2) (v:=.agg (ct.cells sl).toArray) (some 57) rfl rfl (by kernel_rfl) (by kernel_rfl) (by kernel_rfl) (fun _ _ _ h=>h) (Or.inl ⟨by rfl,fun w' hSw=>exec_load_content _ rfl rfl (HCT.out w' hSw) rfl⟩) hHeld ?_
       simp only [Act.put,List.setIfInBounds_toArray,List.set_cons_zero,List.set_cons_succ]
       refine wpH_step (i:=3) (by kernel_rfl) rfl rfl (fun K hK=>?_)
       go_simp
       refine (HCp.out (by trivial) _ K4.out.drew).mono ?_
       rintro e w5 ⟨sl5,fp5,rfl,ho5,hk2⟩
       have KD:Hid (Kp w4 w5 Nul):=((Kp.refl w4 Nul).drew).trans hk2
       have K5:Hid (Kp W w5 Nul):=K4.out.trans KD.out
       have HO5:Hid (Own w5 w4.drew.heap.size sl5 (cpC ct).t fp5):=ho5
       have O5:Hid (sl5.oneCell'=true):=ho5.own.one
       refine hK.out _ _ K5.out (fun hHeld=>?_)
       clear hK K hk2 ho5
       (try simp only [Act.put,List.setIfInBounds_toArray,List.set_cons_zero,List.set_cons_succ])
       refine wpH_takes (i:=4) (v:=.agg (ptCells ((c,s),cpC ct) sl5).toArray) (some 59) rfl rfl (by kernel_rfl) (by kernel_rfl) (by kernel_rfl) (fun _ _ _ h=>h) (Or.inl ⟨by rfl,?_⟩) hHeld ?_
       ·intro w' hSw;clear hSw;go_simp;try rfl
       simp only [Act.put,List.setIfInBounds_toArray,List.set_cons_zero,List.set_cons_succ]
       have HB5:Hid (Blk (w5.alloc (.cells (ptCells ((c,s),cpC ct) sl5).toArray 84)) w5.heap.size (ptCells ((c,s),cpC ct) sl5) 84):=Blk.new w5 _ _
       have HRw:Hid ((w5.alloc (.cells (ptCells ((c,s),cpC ct) sl5).toArray 84)).ownsRow W.heap.size 84 23 v4 lo (rowP (ys.take lo))):=(ownsRow_below HOW4.out (KD.out.alloc (.cells (ptCells ((c,s),cpC ct) sl5).toArray 84)).below)
       refine wpH_step (i:=5) (by kernel_rfl) rfl rfl (fun K hK=>?_)
       go_simp
       refine hK.out _ _ (K5.out.alloc _) (fun hHeld=>?_)
       clear hK K
       (try simp only [Act.put,List.setIfInBounds_toArray,List.set_cons_zero,List.set_cons_succ])
       refine wpH_step (i:=6) (by kernel_rfl) rfl rfl (fun K hK=>?_)
       refine wp_append_tell _ (.tmp 55) (.tmp 60) 29 rfl W.heap.size 84 i0 _ 23 200 Tryz.underlying29 hi hz0 hz1 hz2 rfl (by decide) v4 lo (rowP (ys.take lo)) rfl HRw.out ⟨w5.heap.size,0,none⟩ 1 1 (ptCells ((c,s),cpC ct) sl5) rfl rfl ?d1 ?d2 (by decide) ?d3 ?d4 ?d5 ?_
       case d1=>
        intro j u hj
        rw [addr_at,Nat.zero_add]
        exact HB5.out.cell hj
       case d2=>exact pt_one _ O5.out
       case d3=>have:=HLo.out;have:=HN.out.2.2.1;unfold maxLen;omega
       case d4=>have:=HLo.out;have:=HN.out.2.2.1;omega
       case d5=>exact (K5.out.alloc (.cells (ptCells ((c,s),cpC ct) sl5).toArray 84)).size
       intro g6 c6 w6 hown6 hgrow6 ht6
       have K6:Hid (Kp W w6 Nul):=Kp.of_below ((K5.out.alloc (.cells (ptCells ((c,s),cpC ct) sl5).toArray 84)).below.grown hgrow6 (K5.out.alloc (.cells (ptCells ((c,s),cpC ct) sl5).toArray 84)).size (fun q hq=>(HRw.out.lt q hq).1))
       have hkg:Kp (w5.alloc (.cells (ptCells ((c,s),cpC ct) sl5).toArray 84)) w6 (fun i=>v4.ownBlock=some i):=⟨hgrow6.os,hgrow6.tape,hgrow6.output,hgrow6.size,fun k hk hn=>hgrow6.block k hk (fun e=>hn e.symm)⟩
       have HNd:Hid (NdIn w6 (fun i=>¬ (Value.slice (some ⟨g6,0,none⟩) (lo+1) c6).ownBlock=some i) sl5 (cpC ct).t):=((HO5.out.isIn.kp ((Kp.refl w5 Nul).alloc (.cells (ptCells ((c,s),cpC ct) sl5).toArray 84)) (fun _ _ x=>x)).kp hkg (fun i hi e=>by have h1:=(HOW4.out.lt i e).2;have h2:w4.heap.size≤i:=hi.1;omega)).mono (fun b hb hl=>⟨rfl,fun e=>by
        have e':g6=b:=by simpa [Value.ownBlock] using e
        have hb1:w4.heap.size≤b:=hb.1
        have hb2:=hb.2
        rcases ht6 with q|q
        ·have:=(HOW4.out.lt g6 q).2;omega
        ·rw [World.size_alloc] at q;omega⟩)
       have HOW6:Hid (w6.ownsRow W.heap.size 84 23 (.slice (some ⟨g6,0,none⟩) (lo+1) c6) (lo+1) (rowP (ys.take lo ++ [(((c,s),cpC ct),sl5)]))):=by show World.ownsRow _ _ _ _ _ _ _;rw [rowP_snoc];exact hown6
       refine hK.out _ _ K6.out (fun hHeld=>?_)
       clear hK K hown6 hgrow6 hkg
       show wpAnyH _ _ _ _ _ _ _ (Act.put _ (some 61) _) _
       simp only [Act.put,List.setIfInBounds_toArray,List.set_cons_zero,List.set_cons_succ]
       refine wpH_takes (i:=7) (v:=.slice (some ⟨g6,0,none⟩) (lo+1) c6) (some 11) rfl rfl (by kernel_rfl) (by kernel_rfl) (by kernel_rfl) (fun _ _ _ h=>h) (Or.inl ⟨by rfl,?_⟩) hHeld ?_
       ·intro w' hSw;clear hSw;go_simp
       simp only [Act.put,List.setIfInBounds_toArray,List.set_cons_zero,List.set_cons_succ]
       refine wpAnyH_done (by kernel_rfl) ?_ _
       refine NoPanic.normal ?_
       go_wp2_with fail
       go_meet
       case rel=>exact ⟨[(((c,s),cpC ct),sl5)],by rw [List.length_append,hlt];exact HOW6.out,HM.out.symm,fun y hy=>by obtain rfl:=List.mem_singleton.1 hy;exact HNd.out,K6.out⟩
     case rest=>
      obtain ⟨z,hz1',hz2',hz3',hz4'⟩:=hcut
      rename World=>w6
      have K6:Hid (Kp W w6 Nul):=hz4'
      have HOW:Hid (w6.ownsRow W.heap.size 84 23 u11 (ys.take lo ++ z).length (rowP (ys.take lo ++ z))):=hz1'
      have HZK:Hid (z.map (·.1)=midC c s ct):=hz2'
      have HZT:Hid (∀ y∈z,NdIn w6 (fun i=>¬ u11.ownBlock=some i) y.2 y.1.2.t):=hz3'
      obtain ⟨lz,hlz⟩:∃ lz,(ys.take lo ++ z).length=lz:=⟨_,rfl⟩
      have HLZ:Hid ((ys.take lo ++ z).length=lz):=hlz
      rw [hlz] at HOW
      clear hlz
      have HZL:Hid (z.length≤1):=by
       have h:=congrArg List.length hz2'
       rw [List.length_map] at h
       show _≤_
       rw [h]
       unfold midC
       split <;> simp
      obtain ⟨le,hle⟩:∃ le,lo+(isK K lo (c,s)).toNat=le:=⟨_,rfl⟩
      have HLE:Hid (lo+(isK K lo (c,s)).toNat=le):=hle
      have HLN:Hid (le≤n):=by
       show _≤_
       rw [← hle]
       have h:=HLo.out
       have h2:=HN.out.2.1
       unfold isK
       cases hq:K[lo]? with
       | none=>simp;exact h
       | some x=>
        have:=(List.getElem?_eq_some_iff.1 hq).1
        simp only
        cases decide (x.1=(c,s)) <;> simp <;> omega
      have hwl:wrap64 ((lo:Int)+1)=((lo+1:Nat):Int):=by have:=HLo.out;have:=HN.out.2.2.1;unfold wrap64;omega
      have HWL:Hid (wrap64 ((lo:Int)+1)=((lo+1:Nat):Int)):=hwl
      have r6:w6.cell? ⟨r,0,none⟩=some (.slice (some ⟨b,0,none⟩) n cp):=by have h:=(HDG.out w6 K6.out).box.cell (i:=0) rfl;rw [HN.out.1] at h;exact h
      have hlen:(le:Int)≤(n:Int):=by have:=HLN.out;omega
      have hlec:(le:Int)≤(cp:Int):=by have:=HLN.out;have:=HCN.out;omega
      clear hz1' hz2' hz3' hz4' hle hwl
      go_upto_if 62 with fail
      go_cut [9] (fun x wx=>x=.int .i64 (le:Nat)∧wx=w6)
      case first=>
       cases I with
       | true=>
        have hl1:lo+1=le:=by rw [← HLE.out,HI.out];rfl
        subst hl1
        go_wp2_with fail
        go_meet
        case rel=>exact ⟨by rw [HWL.out],rfl⟩
       | false=>
        have hl1:lo=le:=by rw [← HLE.out,HI.out];rfl
        subst hl1
        go_wp2_with fail
        go_meet
        case rel=>exact ⟨rfl,rfl⟩
      case rest=>
       obtain ⟨rfl,hwx⟩:=hcut
       replace hwx:=hwx.symm
       subst hwx
       have hnews:(rowP (ys.drop le)).length=(n - le) * 23:=by rw [rowP_len,List.length_drop,HN.out.1]
       have htk:(rowP (ys.take le)).length=le * 23:=by rw [rowP_len,List.length_take,HN.out.1,Nat.min_eq_left HLN.out]
       have HDC:Hid (∀ j u,(rowP (ys.drop le))[j]? = some u→w6.cell? ⟨b,le * 23+j,none⟩=some u):=fun j u hj=>HCells.out _ K6.out _ u (by rw [rowP_cut ys le,List.getElem?_append_right (by omega),htk,Nat.add_sub_cancel_left];exact hj)
       have HD1:Hid (∀ u∈rowP (ys.drop le),u.oneCell'=true):=fun u hu=>HOne.out u (by rw [rowP_cut ys le];exact List.mem_append_right _ hu)
       have HLL:Hid (lz+(n - le)≤8193):=by
        show _≤_
        rw [← HLZ.out,List.length_append,List.length_take]
        have:=HN.out.2.2.1;have:=HZL.out;have:=HLo.out
        omega
       have HNW:Hid ((rowP (ys.drop le)).length=(n - le) * 23):=hnews
       have hrW:r < W.heap.size:=(HDG.out W (Kp.refl _ _)).box.lt
       have HRW:Hid (r < W.heap.size):=hrW
       have HB6:Hid (Blk w6 r [.slice (some ⟨b,0,none⟩) ys.length cp] 31):=(HDG.out w6 K6.out).box
       have HT6:Hid (∀ y∈ys,NdIn w6 (fun i=>i < W.heap.size) y.2 y.1.2.t):=fun y hy=>(((HDG.out W (Kp.refl _ _)).pts.tree y hy).monoC fun b hb hc=>by
        obtain ⟨o,q,x,hc⟩:=hc
        exact ⟨rfl,cell_lt hc⟩).kp K6.out (fun _ _ x=>x)
       clear hnews htk hrW HCells HOne
       by_cases hce:cp=le
       ·have HDE:Hid (ys.drop le=[]):=List.drop_eq_nil_of_le (by have:=HN.out.1;have:=HCN.out;have:=HLN.out;omega)
        go_wp2_with (first
         | (at_builtin;refine wpList_append_own _ rfl (.tmp 66) (.tmp 72) 29 rfl W.heap.size 84 i0 _ 23 200 Tryz.underlying29 hi hz0 hz1 hz2 rfl (by decide) _ _ _ rfl HOW.out ⟨b,0,none⟩ (n - le) 0 (rowP (ys.drop le)) rfl HNW.out ?n1 HD1.out ?n4 ?n5 ?n6 ?_)
         | fail)
        case n1=>intro j u hj;rw [HDE.out] at hj;simp [rowP] at hj
        case n4=>have:=HLL.out;unfold maxLen;omega
        case n5=>have:=HLL.out;omega
        case n6=>exact K6.out.size
        ·intro v7 w7 hown7 hgrow7 _
         have K7:Hid (Kp W w7 Nul):=Kp.of_below (K6.out.below.grown hgrow7 K6.out.size (fun q hq=>(HOW.out.lt q hq).1))
         have k67:Kp w6 w7 (fun i=>u11.ownBlock=some i):=⟨hgrow7.os,hgrow7.tape,hgrow7.output,hgrow7.size,fun k hk hn=>hgrow7.block k hk (fun e=>hn e.symm)⟩
         have HB7:Hid (Blk w7 r [.slice (some ⟨b,0,none⟩) ys.length cp] 31):=HB6.out.kp k67 (fun e=>by have h1:=(HOW.out.lt r e).1;have:=HRW.out;omega)
         have HO7:Hid (v7.oneCell'=true):=by rcases hown7.2 with ⟨rfl,_⟩|⟨_,_,_,rfl,_⟩ <;> rfl
         have HOW7:Hid (w7.ownsRow W.heap.size 84 23 v7 (ys.take lo ++ z ++ ys.drop le).length (rowP (ys.take lo ++ z ++ ys.drop le))):=by
          have h:=hown7
          rw [← rowP_append] at h
          show World.ownsRow _ _ _ _ _ _ _
          rw [show (ys.take lo ++ z ++ ys.drop le).length=lz+(n - le) by rw [List.length_append,List.length_drop,HN.out.1,HLZ.out]]
          exact h
         have HT7:Hid (∀ y∈ys.take lo ++ z ++ ys.drop le,NdIn w7 (fun _=>True) y.2 y.1.2.t):=fun y hy=>by
          rcases List.mem_append.1 hy with hy|hy
          ·rcases List.mem_append.1 hy with hy|hy
           ·exact ((HT6.out y (List.mem_of_mem_take hy)).kp k67 (fun i hi e=>by have h1:=(HOW.out.lt i e).1;omega)).mono (fun b hb hl=>⟨rfl,trivial⟩)
           ·exact ((HZT.out y hy).kp k67 (fun i hi e=>hi e)).mono (fun b hb hl=>⟨rfl,trivial⟩)
          ·exact ((HT6.out y (List.mem_of_mem_drop hy)).kp k67 (fun i hi e=>by have h1:=(HOW.out.lt i e).1;omega)).mono (fun b hb hl=>⟨rfl,trivial⟩)
         clear hown7 hgrow7 k67 r6
         go_wp2_with (first
          | (refine wpList_store_var rfl 29 (.tmp 75) (.tmp 73) rfl r rfl v7 rfl HO7.out 31 _ HB7.out (by kernel_rfl) ?_;intro Y hbY hkY)
          | fail)
         go_ret
         refine ⟨lo,v7,ys.take lo ++ z ++ ys.drop le,HP.out,?_,⟨hbY,⟨rowR_kp HOW7.out HBW.out.1 hkY HRW.out,fun y hy=>(HT7.out y hy).monoC fun b' hb' hc=>?_⟩⟩,?_,(HNul.out w7 K7.out).trans hkY⟩
         ·rw [HE.out];rfl
         ·obtain ⟨o,q,x,hc⟩:=hc
          refine ⟨hkY.block b' (cell_lt hc) (fun e=>?_),trivial⟩
          have e':b'=r:=e
          subst e'
          exact no_int_one HB7.out hc
         ·rw [HE.out,if_pos rfl]
          unfold insK
          rw [List.map_append,List.map_append,List.map_take,List.map_drop,HN.out.2.2.2,HZK.out,HLE.out,List.append_assoc]
       ·go_wp2_with (first
         | (at_builtin;refine wpList_append_own _ rfl (.tmp 66) (.tmp 72) 29 rfl W.heap.size 84 i0 _ 23 200 Tryz.underlying29 hi hz0 hz1 hz2 rfl (by decide) _ _ _ rfl HOW.out ⟨b,le * 23,none⟩ (n - le) (cp - le) (rowP (ys.drop le)) rfl HNW.out ?n1 HD1.out ?n4 ?n5 ?n6 ?_)
         | fail)
        case n1=>intro j u hj;rw [addr_at];exact HDC.out j u hj
        case n4=>have:=HLL.out;unfold maxLen;omega
        case n5=>have:=HLL.out;omega
        case n6=>exact K6.out.size
        ·intro v7 w7 hown7 hgrow7 _
         have K7:Hid (Kp W w7 Nul):=Kp.of_below (K6.out.below.grown hgrow7 K6.out.size (fun q hq=>(HOW.out.lt q hq).1))
         have k67:Kp w6 w7 (fun i=>u11.ownBlock=some i):=⟨hgrow7.os,hgrow7.tape,hgrow7.output,hgrow7.size,fun k hk hn=>hgrow7.block k hk (fun e=>hn e.symm)⟩
         have HB7:Hid (Blk w7 r [.slice (some ⟨b,0,none⟩) ys.length cp] 31):=HB6.out.kp k67 (fun e=>by have h1:=(HOW.out.lt r e).1;have:=HRW.out;omega)
         have HO7:Hid (v7.oneCell'=true):=by rcases hown7.2 with ⟨rfl,_⟩|⟨_,_,_,rfl,_⟩ <;> rfl
         have HOW7:Hid (w7.ownsRow W.heap.size 84 23 v7 (ys.take lo ++ z ++ ys.drop le).length (rowP (ys.take lo ++ z ++ ys.drop le))):=by
          have h:=hown7
          rw [← rowP_append] at h
          show World.ownsRow _ _ _ _ _ _ _
          rw [show (ys.take lo ++ z ++ ys.drop le).length=lz+(n - le) by rw [List.length_append,List.length_drop,HN.out.1,HLZ.out]]
          exact h
         have HT7:Hid (∀ y∈ys.take lo ++ z ++ ys.drop le,NdIn w7 (fun _=>True) y.2 y.1.2.t):=fun y hy=>by
          rcases List.mem_append.1 hy with hy|hy
          ·rcases List.mem_append.1 hy with hy|hy
           ·exact ((HT6.out y (List.mem_of_mem_take hy)).kp k67 (fun i hi e=>by have h1:=(HOW.out.lt i e).1;omega)).mono (fun b hb hl=>⟨rfl,trivial⟩)
           ·exact ((HZT.out y hy).kp k67 (fun i hi e=>hi e)).mono (fun b hb hl=>⟨rfl,trivial⟩)
          ·exact ((HT6.out y (List.mem_of_mem_drop hy)).kp k67 (fun i hi e=>by have h1:=(HOW.out.lt i e).1;omega)).mono (fun b hb hl=>⟨rfl,trivial⟩)
         clear hown7 hgrow7 k67 r6
         go_wp2_with (first
          | (refine wpList_store_var rfl 29 (.tmp 75) (.tmp 73) rfl r rfl v7 rfl HO7.out 31 _ HB7.out (by kernel_rfl) ?_;intro Y hbY hkY)
          | fail)
         go_ret
         refine ⟨lo,v7,ys.take lo ++ z ++ ys.drop le,HP.out,?_,⟨hbY,⟨rowR_kp HOW7.out HBW.out.1 hkY HRW.out,fun y hy=>(HT7.out y hy).monoC fun b' hb' hc=>?_⟩⟩,?_,(HNul.out w7 K7.out).trans hkY⟩
         ·rw [HE.out];rfl
         ·obtain ⟨o,q,x,hc⟩:=hc
          refine ⟨hkY.block b' (cell_lt hc) (fun e=>?_),trivial⟩
          have e':b'=r:=e
          subst e'
          exact no_int_one HB7.out hc
         ·rw [HE.out,if_pos rfl]
          unfold insK
          rw [List.map_append,List.map_append,List.map_take,List.map_drop,HN.out.2.2.2,HZK.out,HLE.out,List.append_assoc]
end Go.Proofs.YtlppcfeakakpfaaGreatDoor
