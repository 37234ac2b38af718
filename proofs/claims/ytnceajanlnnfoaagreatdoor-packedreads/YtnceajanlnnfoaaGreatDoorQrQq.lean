/-formula's firstError and Check. -/
import Derived.Test.YtnceajanlnnfoaaGreatDoorQrQh
import Derived.Test.YtnceajanlnnfoaaGreatDoorQrQr
import Derived.Test.YtnceajanlnnfoaaGreatDoorQrXv
import Derived.Shelf.Unicode.ValidAny
import Derived.Test.YtnceajanlnnfoaaGreatDoorProg
namespace Go.Proofs.YtnceajanlnnfoaaGreatDoor
open Go.RowKit
attribute [local irreducible] Nd.fe feL
def Okto (ts : List Nd) (c : Bool) (q : Nat) : Prop := ∀i (h : i<ts.length), i<q->(ts[i]).fe c = 0
set_option maxRecDepth 20000 in
set_option maxHeartbeats 4000000 in
theorem j9P (N : Nat): ∀(t : Nd) (sl : Value) (F : Nat->Prop) (called : Bool) (w : World), t.size<=N->t.ok->NdIn w F sl t->VS w ->
 Calls Tryz.prog 162 #[t.hd.val sl, .bool called] w fun e w' => e = .returned (.int .i64 (t.fe called))/\Kp w w' Nul := by
 induction N with
 | zero => intro t sl F called w h; have := J3 t; omega
 | succ N ih =>
  intro t sl F called w hN hok hin hU;obtain⟨hd, ts⟩ := t;rw[NdIn] at hin;obtain⟨a, c, rfl, h2, h3, h4⟩ := hin;have hsz : Hid ((Nd.mk hd ts).size = 1 + j5 ts) := by show _ = _; rw[Nd.size]
  have hfe : Hid ((Nd.mk hd ts).fe called = if ownE hd ts.length called≠0 then ownE hd ts.length called else feL ts (hd.k==9)) := by show _ = _; rw[Nd.fe]
  have HN : Hid ((Nd.mk hd ts).size<=N + 1) := hN;have HOK : Hid (okL ts) := hok.l;have IH : Hid (∀(t : Nd) (sl : Value) (F : Nat->Prop) (called : Bool) (w : World), t.size<=N->t.ok->NdIn w F sl t->VS w ->
   Calls Tryz.prog 162 #[t.hd.val sl, .bool called] w fun e w' => e = .returned (.int .i64 (t.fe called))/\Kp w w' Nul) := ih
  have hlen : ts.length<=9223372036854775807 := by unfold maxLen at h3; omega
  have H4 : Hid ((ts = []/\(c = 0∨a≠none))∨∃b o, a = some ⟨b, o, none⟩/\F b/\z8 w F b o ts) := h4;have HO : Hid (∀wq, Kp w wq Nul->Calls Tryz.prog 187 #[hd.val (.slice a ts.length c), .bool called] wq fun e w' => e = .returned (.int .i64 (ownE hd ts.length called))/\Kp wq w' Nul) := fun wq hq => jBU hd ts.length a c called hok.x wq (hU.kp hq)
  have HU : Hid (VS w) := hU;clear ih hN h4 h2 h3 hok hU;generalize hn : ts.length = n at *;have HL : Hid (ts.length = n) := hn;have HLEN : Hid (n<=9223372036854775807) := hlen;clear hn hlen;generalize hSS : (Nd.mk hd ts).fe called = S at *;simp only[Nd.hd];obtain⟨W1, hW1⟩ : ∃W1, w.alloc (.cells (hd.cells (.slice a n c)).toArray 64) = W1 := ⟨_, rfl⟩;have k1 : Kp w W1 Nul := by rw[<- hW1]; exact(Kp.refl w Nul).alloc _
  have b1 : Blk W1 w.heap.size (hd.cells (.slice a n c)) 64 := by rw[<- hW1]; exact Blk.new w _ _
  have HW1 : Hid (w.alloc (.cells #[.int .i64 hd.k, .int .i64 hd.o, .float .f64 hd.x, .string hd.s, .bool hd.b, .int .i64 hd.f, .int .i64 hd.c1, .int .i64 hd.r1, .bool hd.p1, .bool hd.q1, .int .i64 hd.c2, .int .i64 hd.r2, .bool hd.p2, .bool hd.q2, .slice a n c] 64) = W1) := hW1;have HO1 : Hid (Calls Tryz.prog 187 #[hd.val (.slice a n c), .bool called] W1 fun e w' => e = .returned (.int .i64 (ownE hd n called))/\Kp W1 w' Nul) := HO.out W1 k1;have HB : Hid (∀wq, Kp W1 wq Nul->Blk wq w.heap.size (hd.cells (.slice a n c)) 64) := fun wq hq => b1.kp hq (fun x => x)
  have HK1 : Hid (Kp w W1 Nul) := k1;generalize hOE : ownE hd n called = OE at *;clear hW1 k1 b1 HO hSS hOE;go_enter Tryz.func162, Tryz.ntmps162;go_wp2_with fail;rw[HW1.out];refine HO1.out.mono ?_;rintro e w1 ⟨rfl, hk1⟩;have HK2 : Hid (Kp W1 w1 Nul) := hk1;have x14 : w1.cell? ⟨w.heap.size, 14, none⟩ = some (.slice a n c) := (HB.out w1 hk1).cell rfl;clear hk1 HO1 HW1;by_cases h0 : OE = 0
  ·subst h0;have hS : Hid (S = feL ts (hd.k==9)) :=(by show _ = _; rw[hfe.out]; rfl);clear hfe;go_wp2_with fail;clear x14;go_loopw[18] (fun i wr => ∃q : Nat, q<=n/\i = .int .i64 q/\Okto ts (hd.k==9) q/\Kp w1 wr Nul) (fun i _ => n-(RowKit.intOf i).toNat)
   case atStart => exact⟨0, Nat.zero_le _, rfl, fun i h hi => by omega, Kp.refl _ _⟩
   case round =>
    obtain⟨q, hq, rfl, hz, hkq⟩ := hrel;have HZ : Hid (Okto ts (hd.k==9) q) := hz;have KQ : Hid (Kp w1 wr Nul) := hkq;have hkw : Kp w wr Nul := (HK1.out.trans HK2.out).trans hkq;have HKW : Hid (Kp w wr Nul) := hkw;have x0 : wr.cell? ⟨w.heap.size, 0, none⟩ = some (.int .i64 hd.k) := (HB.out wr (HK2.out.trans hkq)).cell rfl;have HBx : Hid (∀o, (wr.alloc o).cell? ⟨w.heap.size, 0, none⟩ = some (.int .i64 hd.k)) :=(fun o => ((HB.out wr (HK2.out.trans hkq)).alloc o).cell rfl);clear hz hkq;by_cases hlt : q<n
    ·have hqt : q<ts.length :=(by rw[HL.out]; exact hlt);obtain⟨b, o, rfl, hFb, hns⟩ : ∃b o, a = some ⟨b, o, none⟩/\F b/\z8 w F b o ts := by
      rcases H4.out with h | h
      ·rw[h.1] at hqt; simp at hqt
      ·exact h
     obtain⟨s1, hr, hni⟩ := hns.get q hqt;have HR : Hid (wr.rangeAt b (o + q*15) ((ts[q]).hd.cells s1)) := J2 hr (hkw.block b (L5 hr) (fun x => x));have hni' := hni.kp hkw (fun _ _ x => x);have O1 : Hid (s1.oneCell' = true) := hni.one;have hs1 := O9 ts q hqt;have HC : Hid (∀wq, Kp wr wq Nul->Calls Tryz.prog 162 #[(ts[q]).hd.val s1, .bool (hd.k==9)] wq fun e w' => e = .returned (.int .i64 ((ts[q]).fe (hd.k==9)))/\Kp wq w' Nul) :=(fun wq hq => IH.out ts[q] s1 F _ wq (by have := HN.out; have := hsz.out; omega) (HOK.out.get q hqt) (hni'.kp hq (fun _ _ x => x)) ((HU.out.kp hkw).kp hq));have hstep : Hid ((ts[q]).fe (hd.k==9) = 0->Okto ts (hd.k==9) (q + 1)) := fun h0 i h hi => by
      rcases Nat.lt_or_ge i q with g | g
      ·exact HZ.out i h g
      ·have : i = q :=(by omega);subst this; exact h0
     have hend : Hid ((ts[q]).fe (hd.k==9)≠0->S = (ts[q]).fe (hd.k==9)) :=(fun hne => by rw[hS.out]; exact j4I hqt HZ.out hne);clear hs1 hni hni' hr hns hkw;generalize (ts[q]).fe (hd.k==9) = z at *;generalize (ts[q]).hd = hh at *;have hkb : (q : Int) + 1<=9223372036854775807 :=(by have := HLEN.out; omega);have hq0 : (0 : Int)<=(q : Int) :=(by omega);have hqn : (q : Int)<(n : Int) :=(by omega);have x0' := HBx.out;go_wp2_with (first | (refine wpList_load_mid rfl 64 (.tmp 20) rfl b (o + q*15) rfl (hh.cells s1) _ HR.out Tryz.underlying64 rfl z6 ?_) | (refine I5 rfl 64 (.tmp 7) (.tmp 21) rfl _ _ _ _ _ (by first | rfl | simp) rfl rfl rfl z6 (hh.one O1.out) ?_) | (refine L4 rfl (.tmp 7) rfl wr.heap.size rfl (hh.cells s1).toArray (heap_alloc_new _ _) rfl ?_));refine(HC.out _ ((Kp.refl _ _).alloc _)).mono ?_;rintro e w2 ⟨rfl, hk2⟩
     have HK3 : Hid (Kp w1 w2 Nul) := (KQ.out.alloc _).trans hk2;have HK4 : Hid (Kp w w2 Nul) := (HKW.out.alloc _).trans hk2;clear hk2 HC HR x0 x0';by_cases hz0 : z = 0
     ·subst hz0;go_wp2_with fail;go_roundw
      case rel => exact⟨q + 1, by omega, by go_num, hstep.out trivial, HK3.out⟩
      case measure => simp only[RowKit.intOf]; omega
     ·have HS0 : Hid (S = z) := hend.out hz0;have hzb : (z==0) = false :=(by simpa using hz0);clear hend hstep HZ HKW KQ HK3 IH H4 HOK hq0 hqn hkb hlt hqt hFb hq hz0 HBx O1;go_wp21;go_ret;exact⟨rInt HS0.out.symm, HK4.out⟩
    ·have hqe : q = n :=(by omega);subst hqe;have hqn : ¬((q : Int)<(q : Int)) :=(by omega);have HS0 : Hid (S = 0) := by
      show _ = _;rw[hS.out];exact j4H fun i h hi => HZ.out i h (by rw[<- HL.out]; exact h)
     as_aux_lemma =>
     go_wp2_with fail;go_ret;exact⟨rInt HS0.out.symm, HKW.out⟩
  ·have HS0 : Hid (S = OE) :=(by show _ = _; rw[hfe.out, if_pos h0]);have hzb : (OE==0) = false :=(by simpa using h0);go_wp2_with fail;go_ret;exact⟨rInt HS0.out.symm, HK1.out.trans HK2.out⟩
set_option maxRecDepth 20000 in
set_option maxHeartbeats 4000000 in
theorem j8b (t : Nd)(sl : Value)(F : Nat->Prop)(w : World)(hok : t.ok)(hin : NdIn w F sl t)(hU : VS w):
 Calls Tryz.prog 112 #[t.hd.val sl] w fun e w' => e = .returned (.int .i64 (chk t))/\Kp w w' Nul := by
 obtain⟨W1, hW1⟩ : ∃W1, w.alloc (.cells (t.hd.cells sl).toArray 64) = W1 := ⟨_, rfl⟩;have k1 : Kp w W1 Nul := by rw[<- hW1]; exact(Kp.refl w Nul).alloc _
 have b1 : Blk W1 w.heap.size (t.hd.cells sl) 64 := by rw[<- hW1]; exact Blk.new w _ _
 have HW1 : Hid (w.alloc (.cells #[.int .i64 t.hd.k, .int .i64 t.hd.o, .float .f64 t.hd.x, .string t.hd.s, .bool t.hd.b, .int .i64 t.hd.f, .int .i64 t.hd.c1, .int .i64 t.hd.r1, .bool t.hd.p1, .bool t.hd.q1, .int .i64 t.hd.c2, .int .i64 t.hd.r2, .bool t.hd.p2, .bool t.hd.q2, sl] 64) = W1) := hW1;have HT : Hid (∀wq, Kp w wq Nul->Calls Tryz.prog 160 #[t.hd.val sl] wq fun e w' => e = .returned (.bool (decide (256<t.size)))/\Kp wq w' Nul) := fun wq hq => jEQ t sl F wq (hin.kp hq (fun _ _ x => x))
 have HD : Hid (t.size<=256->∀wq, Kp w wq Nul->Calls Tryz.prog 161 #[t.hd.val sl] wq fun e w' => e = .returned (.int .i64 (t.dep : Nat))/\Gr wq w') := fun h wq hq => j99 t sl F wq (by omega) (hin.kp hq (fun _ _ x => x))
 have HF : Hid (∀wq, Kp w wq Nul->Calls Tryz.prog 162 #[t.hd.val sl, .bool false] wq fun e w' => e = .returned (.int .i64 (t.fe false))/\Kp wq w' Nul) := fun wq hq => j9P t.size t sl F false wq (Nat.le_refl _) hok (hin.kp hq (fun _ _ x => x)) (hU.kp hq)
 have hE : Hid (chk t = if 256<t.size then 34 else if 32<t.dep then 33 else t.fe false) := rfl;have HB : Hid (∀wq, Kp W1 wq Nul->wq.heap[w.heap.size]? = some (.cells (t.hd.cells sl).toArray 64 (0, 0))) := fun wq hq => b1.kp hq (fun x => x)
 have HK1 : Hid (Kp w W1 Nul) := k1;clear hW1 k1 b1 hU hok hin;generalize chk t = E at *;generalize t.size = sz at *;generalize t.dep = dp at *;generalize t.fe false = fe at *;generalize t.hd = h at *;go_enter Tryz.func112, Tryz.ntmps112;go_wp2_with fail;rw[HW1.out];refine(HT.out _ HK1.out).mono ?_;rintro e w1 ⟨rfl, hk1⟩;have HK2 : Hid (Kp W1 w1 Nul) := hk1;have HB1 : Hid (w1.heap[w.heap.size]? = some (.cells (h.cells sl).toArray 64 (0, 0))) := HB.out w1 hk1;clear hk1 HT HW1;by_cases h1 : 256<sz
 ·rw[decide_eq_true h1];have HE : Hid (E = 34) := by show _ = _; rw[hE.out, if_pos h1]
  go_wp2_with fail;go_ret;exact⟨rInt HE.out.symm, HK1.out.trans HK2.out⟩
 ·rw[decide_eq_false h1];have HD1 : Hid (∀wq, Kp w wq Nul->Calls Tryz.prog 161 #[h.val sl] wq fun e w' => e = .returned (.int .i64 (dp : Nat))/\Gr wq w') := HD.out (by omega);have hE2 : Hid (E = if 32<dp then 33 else fe) := by show _ = _; rw[hE.out, if_neg h1]
  clear hE HD h1;go_wp2_with (first | (refine L4 rfl (.tmp 1) rfl w.heap.size rfl (h.cells sl).toArray HB1.out rfl ?_) | fail);refine(HD1.out _ (HK1.out.trans HK2.out)).mono ?_;rintro e w2 ⟨rfl, hg2⟩;have HK3 : Hid (Kp W1 w2 Nul) := HK2.out.trans (Kp.of_gr hg2);have HB2 : Hid (w2.heap[w.heap.size]? = some (.cells (h.cells sl).toArray 64 (0, 0))) := HB.out w2 HK3.out;clear hg2 HD1 HK2 HB1;by_cases h2 : 32<dp
  ·have j : (32 : Int)<(dp : Int) :=(by omega);have HE : Hid (E = 33) :=(by show _ = _; rw[hE2.out, if_pos h2]);go_wp2_with fail;go_ret;exact⟨rInt HE.out.symm, HK1.out.trans HK3.out⟩
  ·have j : ¬(32 : Int)<(dp : Int) :=(by omega);have HE : Hid (E = fe) :=(by show _ = _; rw[hE2.out, if_neg h2]);go_wp2_with (first | (refine L4 rfl (.tmp 1) rfl w.heap.size rfl (h.cells sl).toArray HB2.out rfl ?_) | fail);refine(HF.out _ (HK1.out.trans HK3.out)).mono ?_;rintro e w3 ⟨rfl, hk3⟩;have HK4 : Hid (Kp w w3 Nul) := (HK1.out.trans HK3.out).trans hk3;clear hk3 HF;go_wp2_with fail;go_ret;exact⟨rInt HE.out.symm, HK4.out⟩
end Go.Proofs.YtnceajanlnnfoaaGreatDoor
namespace Go.Proofs.YtnceajanlnnfoaaGreatDoor
open Go.RowKit
set_option maxRecDepth 20000 in
set_option maxHeartbeats 4000000 in
theorem jEi (v : Vl)(w : World)(U : VS w):
 Calls Tryz.prog 111 #[v.val] w fun e w' => e = .returned (.bool (G5 v (Lib.validD v.s.data.toList)))/\Kp w w' Nul := by
 have H1 : Hid (∀w, Calls Tryz.prog 157 #[v.val] w fun e w' => e = .returned (.bool (F8 v))/\Gr w w') := j3R v;have H2 : Hid (∀w, Calls Tryz.prog 159 #[.int .i64 v.f] w fun e w' => e = .returned (.bool (isF v.f))/\w' = w) := j4f v.f;have HU : Hid (v.s.size<=1024->∀wq, Kp w wq Nul->Calls Tryz.prog 158 #[.string v.s] wq fun e w' => e = .returned (.bool (Lib.validD v.s.data.toList))/\Kp wq w' Nul) := fun hs wq hq => U v.s wq hs hq
 have hV : Hid (G5 v (Lib.validD v.s.data.toList) = (F8 v&&(v.k==0 || v.k==1 || v.k==3 || (v.k==2&&decide (v.s.size<=1024)&&Lib.validD v.s.data.toList)||(v.k==4&&isF v.f)))) := rfl;generalize G5 v (Lib.validD v.s.data.toList) = V at *;generalize F8 v = B at *;generalize isF v.f = I at *;generalize Lib.validD v.s.data.toList = u at *;obtain⟨k, x, s, b, f⟩ := v;simp only at *;clear U;go_enter Tryz.func111, Tryz.ntmps111;go_wp2_with fail;refine(H1.out _).mono ?_;rintro e w1 ⟨rfl, hg1⟩;have hcell := hg1.ext.cell;have G1 : Hid (Kp w w1 Nul) := ((Kp.refl _ _).alloc _).trans (Kp.of_gr hg1);clear hg1 H1;cases B
 ·go_wp2_with fail;go_ret;exact⟨j4 (by rw[hV.out]; rfl), G1.out⟩
 ·by_cases k2 : k = 2
  ·subst k2;by_cases hl : s.size<=1024
   ·have U2 : Hid (∀wq, Kp w wq Nul->Calls Tryz.prog 158 #[.string s] wq fun e w' => e = .returned (.bool u)/\Kp wq w' Nul) := HU.out hl;have HL : Hid (decide (s.size<=1024) = true) :=(by show _ = _; simp[hl]);have hl' : (s.size : Int)<=1024 :=(by omega);clear HU;go_wp2_with (go_at_call 158; refine(U2.out _ G1.out).mono ?_; rintro e w2 ⟨rfl, hg2⟩; have G2 : Hid (Kp w w2 Nul) := G1.out.trans hg2; clear hg2 hcell);all_goals
     go_ret;refine⟨j4 ?_, G2.out⟩;rw[hV.out, HL.out];cases u <;> simp
   ·have HL : Hid (decide (s.size<=1024) = false) :=(by show _ = _; simp[hl]);have hl' : ¬(s.size : Int)<=1024 :=(by omega);have hl2 : decide ((s.size : Int)<=1024) = false :=(by simp; omega);clear HU;go_wp2_with fail;all_goals
     go_ret;refine⟨j4 ?_, G1.out⟩;rw[hV.out, HL.out];simp
  ·clear HU;have HK2 : Hid ((k==2) = false) :=(by show _ = _; simp[k2]);go_wp2_with (go_at_call 159; refine(H2.out _).mono ?_; rintro e w2 ⟨rfl, rfl⟩);all_goals
    go_ret;refine⟨j4 ?_, G1.out⟩;rw[hV.out];clear hV hcell H2;simp_all
def gv (c : Ct) : Bool := Q7 c (Lib.validD c.v.s.data.toList) (chk c.t)
set_option maxRecDepth 20000 in
set_option maxHeartbeats 8000000 in
theorem j4U (c : Ct)(sl : Value)(F : Nat->Prop)(w : World)(hok : c.t.ok)(hin : NdIn w F sl c.t)(U : VS w):
 Calls Tryz.prog 57 #[c.val sl] w fun e w' => e = .returned (.bool (gv c))/\Kp w w' Nul := by
 have H1 : Hid (∀w, Calls Tryz.prog 109 #[c.v.val] w fun e w' => e = .returned (.bool (G9 c.v))/\Gr w w') := j9x c.v;have H2 : Hid (∀wq, Kp w wq Nul->Calls Tryz.prog 110 #[c.t.hd.val sl] wq fun e w' => e = .returned (.bool (G8 c.t))/\Gr wq w') := fun wq hq => j9w c.t sl F wq hok (hin.kp hq (fun _ _ x => x))
 have H3 : Hid (∀wq, Kp w wq Nul->Calls Tryz.prog 111 #[c.v.val] wq fun e w' => e = .returned (.bool (G5 c.v (Lib.validD c.v.s.data.toList)))/\Kp wq w' Nul) := fun wq hq => jEi c.v wq (U.kp hq)
 have CK : Hid (∀wq, Kp w wq Nul->Calls Tryz.prog 112 #[c.t.hd.val sl] wq fun e w' => e = .returned (.int .i64 (chk c.t))/\Kp wq w' Nul) := fun wq hq => j8b c.t sl F wq hok (hin.kp hq (fun _ _ x => x)) (U.kp hq)
 have hV : Hid (gv c = ((c.k==0&&(G9 c.v&&G8 c.t))||(c.k==1&&(c.v.k != 0&&G5 c.v (Lib.validD c.v.s.data.toList)&&G8 c.t))||(c.k==2&&(G9 c.v&&chk c.t==0)))) := rfl;generalize gv c = V at *;generalize G9 c.v = Z at *;generalize G8 c.t = ZN at *;generalize G5 c.v (Lib.validD c.v.s.data.toList) = VV at *;generalize chk c.t = ec at *;obtain⟨k, ⟨vk, vx, vs, vb, vf⟩, t⟩ := c;simp only at *;clear U hin hok;have GA : Hid (∀o, Kp w (w.alloc o) Nul) := fun o => (Kp.refl w Nul).alloc _
 by_cases k0 : k = 0
 ·subst k0;clear H3 CK;go_enter Tryz.func57, Tryz.ntmps57;go_wp2_with fail;refine(H1.out _).mono ?_;rintro e w1 ⟨rfl, hg1⟩;have hcell := hg1.ext.cell;have G1 : Hid (Kp w w1 Nul) := (GA.out _).trans (Kp.of_gr hg1);clear hg1 H1;cases Z
  ·go_wp2_with fail;go_ret;exact⟨j4 (by rw[hV.out]; rfl), G1.out⟩
  ·go_wp2_with fail;refine(H2.out _ G1.out).mono ?_;rintro e w2 ⟨rfl, hg2⟩;have G2 : Hid (Kp w w2 Nul) := G1.out.trans (Kp.of_gr hg2);clear hg2 H2 hcell;go_wp2_with fail;go_ret;exact⟨j4 (by rw[hV.out]; cases ZN <;> rfl), G2.out⟩
 ·by_cases k1 : k = 1
  ·have H4 : Hid (∀wq, Kp w wq Nul->Calls Tryz.prog 111 #[.agg #[.int .i64 vk, .float .f64 vx, .string vs, .bool vb, .int .i64 vf]] wq fun e w' => e = .returned (.bool VV)/\Kp wq w' Nul) := H3.out;subst k1;clear H3 CK H1;by_cases v0 : vk = 0
   ·subst v0;go_enter Tryz.func57, Tryz.ntmps57;go_wp2_with fail;go_ret;exact⟨j4 (by rw[hV.out]; rfl), GA.out _⟩
   ·have hv0 : (vk != 0) = true :=(by simpa using v0);go_enter Tryz.func57, Tryz.ntmps57;go_wp2_with fail;refine(H4.out _ (GA.out _)).mono ?_;rintro e w1 ⟨rfl, hg1⟩;have G1 : Hid (Kp w w1 Nul) := (GA.out _).trans hg1;have hcell : ∀a : Addr, a.block<w.heap.size + 1->w1.cell? a = (w.alloc (.cells #[.int .i64 1, .int .i64 vk, .float .f64 vx, .string vs, .bool vb, .int .i64 vf, .int .i64 t.hd.k, .int .i64 t.hd.o, .float .f64 t.hd.x, .string t.hd.s, .bool t.hd.b, .int .i64 t.hd.f, .int .i64 t.hd.c1, .int .i64 t.hd.r1, .bool t.hd.p1, .bool t.hd.q1, .int .i64 t.hd.c2, .int .i64 t.hd.r2, .bool t.hd.p2, .bool t.hd.q2, sl] 66)).cell? a := fun a ha => by
     have := hg1.block a.block (by rw[World.size_alloc]; exact ha) (fun x => x);simp only[World.cell?, this]
    clear hg1 H4;cases VV
    ·go_wp2_with fail;go_ret;exact⟨j4 (by rw[hV.out, hv0]; rfl), G1.out⟩
    ·go_wp2_with fail;refine(H2.out _ G1.out).mono ?_;rintro e w2 ⟨rfl, hg2⟩;have G2 : Hid (Kp w w2 Nul) := G1.out.trans (Kp.of_gr hg2);clear hg2 H2 hcell;go_wp2_with fail;go_ret;exact⟨j4 (by rw[hV.out, hv0]; cases ZN <;> rfl), G2.out⟩
  ·by_cases k2 : k = 2
   ·subst k2;clear H3 H2;go_enter Tryz.func57, Tryz.ntmps57;go_wp2_with fail;refine(H1.out _).mono ?_;rintro e w1 ⟨rfl, hg1⟩;have hcell := hg1.ext.cell;have G1 : Hid (Kp w w1 Nul) := (GA.out _).trans (Kp.of_gr hg1);clear hg1 H1;cases Z
    ·go_wp2_with fail;go_ret;exact⟨j4 (by rw[hV.out]; rfl), G1.out⟩
    ·go_wp2_with fail;refine(CK.out _ G1.out).mono ?_;rintro e w2 ⟨rfl, hg2⟩;have G2 : Hid (Kp w w2 Nul) := G1.out.trans hg2;clear hg2 CK hcell;go_wp2_with fail;all_goals
      go_ret;refine⟨j4 ?_, G2.out⟩;rw[hV.out];simp_all
   ·have h0 : (k==0) = false :=(by simpa using k0);have h1 : (k==1) = false :=(by simpa using k1);have h2 : (k==2) = false :=(by simpa using k2);clear H1 H2 H3 CK;go_enter Tryz.func57, Tryz.ntmps57;go_wp2_with fail;go_ret;exact⟨j4 (by rw[hV.out, h0, h1, h2]; rfl), GA.out _⟩
end Go.Proofs.YtnceajanlnnfoaaGreatDoor
namespace Go.Proofs.YtnceajanlnnfoaaGreatDoor
open Go.RowKit Go.Maps
mutual
theorem NdIn.monoC {w w' : World}{F F' : Nat->Prop}(hF : ∀b, F b->(∃o k x, w.cell? ⟨b, o, none⟩ = some (.int k x))->w'.heap[b]? = w.heap[b]? /\ F' b){sl : Value}: ∀ {t : Nd}, NdIn w F sl t->NdIn w' F' sl t
 | .mk _ ts, h => by
  rw[NdIn] at h ⊢;obtain⟨a, c, h1, h2, h3, h4⟩ := h;refine⟨a, c, h1, h2, h3, ?_⟩;rcases h4 with h4 | ⟨b, o, h4, h5, h6⟩
  ·exact .inl h4
  ·cases ts with
   | nil =>
    subst h4;exact .inl ⟨rfl, .inr (by simp)⟩
   | cons t ts =>
    have hb : ∃o k x, w.cell? ⟨b, o, none⟩ = some (.int k x) := by
     rw[z8] at h6;obtain⟨⟨_, h7, _⟩, _⟩ := h6;exact⟨o + 0, _, _, h7 0 _ rfl⟩
    exact .inr ⟨b, o, h4, (hF b h5 hb).2, z8.monoC hF (hF b h5 hb).1 h6⟩
theorem z8.monoC {w w' : World}{F F' : Nat->Prop}(hF : ∀b, F b->(∃o k x, w.cell? ⟨b, o, none⟩ = some (.int k x))->w'.heap[b]? = w.heap[b]? /\ F' b){b : Nat}(hb : w'.heap[b]? = w.heap[b]?): ∀ {ts : List Nd} {o : Nat}, z8 w F b o ts->z8 w' F' b o ts
 | [], _, _ => by rw[z8]; trivial
 | t::ts, o, h => by
  rw[z8] at h ⊢;obtain⟨⟨sl, h1, h2⟩, h3⟩ := h;exact⟨⟨sl, J2 h1 hb, NdIn.monoC hF h2⟩, z8.monoC hF hb h3⟩
end
theorem j3c {w : World}{b o : Nat}{k : IntKind}{x : Int}(h : w.cell? ⟨b, o, none⟩ = some (.int k x)): ∃cs t f, w.heap[b]? = some (.cells cs t f)/\cs[o]? = some (.int k x) := by
 simp only[World.cell?] at h;cases e : w.heap[b]? with
 | none => rw[e] at h; cases h
 | some ob =>
  rw[e] at h;cases ob <;> simp at h
  exact⟨_, _, _, rfl, h⟩
abbrev GI (B : Nat) (w : World) (g : Nat) (L : List Cc) : Prop := j9 w (fun i => B<=i) g L
theorem GI.blk {B : Nat}{w : World}{g : Nat}{L : List Cc}(h : GI B w g L): ∃mv, Blk w g [.map mv] 124 := by
 obtain⟨_, ⟨hb, _⟩ | ⟨m, D, hb, _⟩⟩ := h
 ·exact⟨_, hb⟩
 ·exact⟨_, hb⟩
def delL (L : List Cc) (k : Int×Int) : List Cc := L.filter (fun x => decide (x.1≠k))
theorem X6 {L : List Cc}{k : Int×Int}(x : Cc): x∈delL L k↔x∈L/\x.1≠k := by
 unfold delL;rw[List.mem_filter];simp
theorem j9e {w w' : World}{F : Nat->Prop}{D : DataW Value}{L : List Cc}{m n : Nat}{c r : Int}(hown : w.ownsMap Tryz.prog 57 rawE m n D)(hm : X1 w F D L)(hc : I64 c)(hr : I64 r)(hold : ∀sl t, NdIn w F sl t->NdIn w' F sl t):
 X1 w' F (D.del (kl c r)) (delL L (c, r)) := by
 have hT := hown.tidy J5;have hne : ∀x y, I64 x->I64 y->(x, y)≠(c, r)->kl x y≠kl c r := fun x y hx hy h e => h (by
  have := j1C hx hy hc hr e;exact Prod.ext this.1 this.2)
 refine⟨?_, fun x hx => hm.rng x ((X6 x).1 hx).1, fun x y hx hy => ?_, fun x y ct' h => ?_, List.Pairwise.filter _ hm.once⟩
 ·have h1 := size_del (k := kl c r) hT;rw[hm.size] at h1;unfold delL;by_cases hh : Maps.has D (kl c r) = true
  ·obtain⟨ct', hmem⟩ := (hm.keys c r hc hr).1 hh;have h2 := j0X hm.once hmem;rw[if_pos hh] at h1;omega
  ·rw[if_neg hh] at h1;rw[j17 (fun ct' hmem => hh ((hm.keys c r hc hr).2 ⟨ct', hmem⟩))];omega
 ·by_cases e : (x, y) = (c, r)
  ·cases e
   rw[has_del_same];constructor
   ·intro h; cases h
   ·rintro⟨ct', h⟩; exact absurd rfl ((X6 _).1 h).2
  ·rw[has_del_other (hne x y hx hy e), hm.keys x y hx hy];constructor
   ·rintro⟨ct', h⟩; exact⟨ct', (X6 _).2 ⟨h, e⟩⟩
   ·rintro⟨ct', h⟩; exact⟨ct', ((X6 _).1 h).1⟩
 ·obtain⟨h, e⟩ := (X6 _).1 h;have hxy := hm.rng _ h;obtain⟨sl', e1, e2⟩ := hm.vals x y ct' h;exact⟨sl', by rw[atKey_del_other (hne x y hxy.1 hxy.2 e)]; exact e1, hold _ _ e2⟩
theorem j0Z {B : Nat}{w : World}{g : Nat}{L : List Cc}(h : GI B w g L): ∃mv, Blk w g [.map mv] 124/\∀w', Kp w w' Nul->∀ty, (Builtin.len_ #[122] ty #[.map mv]).run Tryz.prog w' = .ok (.int .i64 L.length) w' := by
 obtain⟨_, ⟨hb, rfl⟩ | ⟨m, D, hb, _, hne, hown, hm⟩⟩ := h
 ·exact⟨none, hb, fun w' _ ty => Maps.len_nil Tryz.underlying122 ty⟩
 ·refine⟨some m, hb, fun w' k ty => ?_⟩;have := (j0A hown (k.block m hown.lt (fun x => x))).len Tryz.underlying122 ty;rw[hm.size] at this;exact this
end Go.Proofs.YtnceajanlnnfoaaGreatDoor
namespace Go.Proofs.YtnceajanlnnfoaaGreatDoor
open Go.RowKit Go.Maps
set_option maxRecDepth 20000 in
set_option maxHeartbeats 8000000 in
theorem j4W (g : Nat)(c r : Int)(mv : Option Nat)(cs : Array Value)(B : Bool)(w : World)(hcs : cs.size = 21)(hone : cs.all (·.oneCell') = true)(hlk : Lk w g c r mv (.agg cs) B):
 Calls Tryz.prog 59 #[.pointer (some ⟨g, 0, none⟩), .agg #[.int .i64 c, .int .i64 r]] w fun e w' => e = .returned (.bool B)/\Kp w w' Nul := by
 obtain⟨W1, hW1⟩ : ∃W1, w.alloc (.cells #[.int .i64 c, .int .i64 r] 57) = W1 := ⟨_, rfl⟩;have k1 : Kp w W1 Nul := by rw[<- hW1]; exact(Kp.refl w Nul).alloc _
 have hA1 : Blk W1 w.heap.size [.int .i64 c, .int .i64 r] 57 := by rw[<- hW1]; exact Blk.new w [.int .i64 c, .int .i64 r] _
 have hglt : g<w.heap.size := (Array.getElem?_eq_some_iff.1 hlk.cell).1;have hg1 : Blk W1 g [.map mv] 124 := (k1.block g hglt (fun x => x)).trans hlk.cell;have HS : Hid (∀wq, Kp W1 wq Nul->(wq.cell? ⟨w.heap.size, 0, none⟩ = some (.int .i64 c)/\wq.cell? ⟨w.heap.size, 1, none⟩ = some (.int .i64 r)/\wq.cell? ⟨g, 0, none⟩ = some (.map mv)/\(Instr.lookup 122 (.map mv) (.agg #[.int .i64 c, .int .i64 r]) true).run Tryz.prog wq = .ok (.tuple #[.agg cs, .bool B]) wq)) := fun wq k => ⟨(hA1.kp k (fun x => x)).cell rfl, (hA1.kp k (fun x => x)).cell rfl, (hg1.kp k (fun x => x)).cell rfl, hlk.two wq (fun m hm => by
  have h2 := (hlk.ne m hm).2;have h3 := k1.size;exact(k.block m (by omega) (fun x => x)).trans (k1.block m h2 (fun x => x)))⟩
 have HW1 : Hid (w.alloc (.cells #[.int .i64 c, .int .i64 r] 57) = W1) := hW1;have HK1 : Hid (Kp w W1 Nul) := k1;have HCS : Hid (cs.size = 21) := hcs;have HONE : Hid (cs.all (·.oneCell') = true) := hone;clear hW1 k1 hA1 hg1 hlk hglt hcs hone;go_enter Tryz.func59, Tryz.ntmps59;go_wp2_with fail;rw[HW1.out];clear HW1;refine wp_region_noPanic ?_;refine F5 (fun w' : World => Kp W1 w' Nul) (by kernel_rfl) ((Kp.refl W1 _).drew) (fun hHeld => ?_);refine j3 (i := 0) (v := ?_) (some 8) rfl rfl (by kernel_rfl) (fun _ _ _ h => h) (Or.inl ⟨by rfl, ?_⟩) hHeld ?_;rotate_left
 ·intro w' hSw; obtain⟨s0, s1, s2, s3⟩ := HS.out _ hSw; clear hSw; go_simp; try with_reducible rfl
 simp only[Act.put,Sz0,Sz1,Sz2];refine j3 (i := 1) (v := ?_) (some 9) rfl rfl (by kernel_rfl) (fun _ _ _ h => h) (Or.inl ⟨by rfl, ?_⟩) hHeld ?_;rotate_left
 ·intro w' hSw; obtain⟨s0, s1, s2, s3⟩ := HS.out _ hSw; clear hSw; go_simp; try with_reducible rfl
 simp only[Act.put,Sz0,Sz1,Sz2];refine j3 (i := 2) (v := ?_) (some 10) rfl rfl (by kernel_rfl) (fun _ _ _ h => h) (Or.inl ⟨by rfl, ?_⟩) hHeld ?_;rotate_left
 ·intro w' hSw; obtain⟨s0, s1, s2, s3⟩ := HS.out _ hSw; clear hSw; go_simp; try with_reducible rfl
 simp only[Act.put,Sz0,Sz1,Sz2];refine j3 (i := 3) (v := ?_) (some 11) rfl rfl (by kernel_rfl) (fun _ _ _ h => h) (Or.inl ⟨by rfl, ?_⟩) hHeld ?_;rotate_left
 ·intro w' hSw; obtain⟨s0, s1, s2, s3⟩ := HS.out _ hSw; clear hSw; go_simp; try with_reducible rfl
 simp only[Act.put,Sz0,Sz1,Sz2];refine j3 (i := 4) (v := ?_) (some 12) rfl rfl (by kernel_rfl) (fun _ _ _ h => h) (Or.inl ⟨by rfl, ?_⟩) hHeld ?_;rotate_left
 ·intro w' hSw; obtain⟨s0, s1, s2, s3⟩ := HS.out _ hSw; clear hSw; go_simp; try with_reducible rfl
 simp only[Act.put,Sz0,Sz1,Sz2];refine j3 (i := 5) (v := ?_) (some 13) rfl rfl (by kernel_rfl) (fun _ _ _ h => h) (Or.inl ⟨by rfl, ?_⟩) hHeld ?_;rotate_left
 ·intro w' hSw; obtain⟨s0, s1, s2, s3⟩ := HS.out _ hSw; clear hSw; go_simp; try with_reducible rfl
 simp only[Act.put,Sz0,Sz1,Sz2];refine j3 (i := 6) (v := ?_) (some 7) rfl rfl (by kernel_rfl) (fun _ _ _ h => h) (Or.inl ⟨by rfl, ?_⟩) hHeld ?_;rotate_left
 ·intro w' hSw; obtain⟨s0, s1, s2, s3⟩ := HS.out _ hSw; clear hSw; go_simp; try with_reducible rfl
 simp only[Act.put,Sz0,Sz1,Sz2];refine j3 (i := 7) (v := ?_) (some 14) rfl rfl (by kernel_rfl) (fun _ _ _ h => h) (Or.inl ⟨by rfl, ?_⟩) hHeld ?_;rotate_left
 ·intro w' hSw; obtain⟨s0, s1, s2, s3⟩ := HS.out _ hSw; clear hSw; go_simp; try with_reducible rfl
 simp only[Act.put,Sz0,Sz1,Sz2];refine j3 (i := 8) (v := ?_) (some 15) rfl rfl (by kernel_rfl) (fun _ _ _ h => h) (Or.inl ⟨by rfl, ?_⟩) hHeld ?_;rotate_left
 ·intro w' hSw; obtain⟨s0, s1, s2, s3⟩ := HS.out _ hSw; clear hSw; go_simp; try with_reducible rfl
 simp only[Act.put,Sz0,Sz1,Sz2];refine D9 (i := 9) (by kernel_rfl) rfl rfl (fun K hK => ?_);go_simp;obtain⟨W2, hW2⟩ : ∃W2, (W1.alloc (.cells #[.int .i64 0, .int .i64 0, .float .f64 0, .string ⟨#[]⟩, .bool false, .int .i64 0, .int .i64 0, .int .i64 0, .float .f64 0, .string ⟨#[]⟩, .bool false, .int .i64 0, .int .i64 0, .int .i64 0, .bool false, .bool false, .int .i64 0, .int .i64 0, .bool false, .bool false, .slice none 0 0] 66)).drew = W2 := ⟨_, rfl⟩;have k12 : Kp W1 W2 Nul := by rw[<- hW2]; exact((Kp.refl W1 Nul).alloc _).drew
 have hB2 : W2.heap[W1.heap.size]? = some (.cells #[.int .i64 0, .int .i64 0, .float .f64 0, .string ⟨#[]⟩, .bool false, .int .i64 0, .int .i64 0, .int .i64 0, .float .f64 0, .string ⟨#[]⟩, .bool false, .int .i64 0, .int .i64 0, .int .i64 0, .bool false, .bool false, .int .i64 0, .int .i64 0, .bool false, .bool false, .slice none 0 0] 66 (0, 0)) := by rw[<- hW2]; exact heap_alloc_new W1 _
 rw[hW2];refine hK.out _ _ k12 (fun hHeld2 => ?_);clear hK K hHeld hW2;refine D9 (i := 10) (by kernel_rfl) rfl rfl (fun K hK => ?_);refine wp_store_mid 66 (.tmp 5) (.tmp 14) rfl W1.heap.size 0 cs rfl rfl (I1 hB2 _ _ (by rw[HCS.out]; simp)) (by rw[HCS.out]; exact E8) HONE.out ?_;obtain⟨W5, hW5⟩ : ∃W5, W2.setCells W1.heap.size 0 cs.toList = W5 := ⟨_, rfl⟩;have k25 : Kp W2 W5 (fun i => i = W1.heap.size) := by rw[<- hW5]; exact Q1 (fun i => i = W1.heap.size) rfl _ _ _
 have k15 : Kp W1 W5 Nul := k12.trans' k25 (fun i hi e => by have : i = W1.heap.size := e; omega);show K _ (W2.setCells W1.heap.size 0 cs.toList);rw[hW5];refine hK.out _ _ k15 (fun hHeld3 => ?_);have HEND : Hid (Kp w W5 Nul) := HK1.out.trans k15;clear hK K hHeld2 k12 k25 k15 hB2 hW5 HS HK1;refine j3 (i := 11) (v := ?_) (some 6) rfl rfl (by kernel_rfl) (fun _ _ _ h => h) (Or.inl ⟨by rfl, ?_⟩) hHeld3 ?_;rotate_left
 ·intro w' hSw; clear hSw; go_simp; try with_reducible rfl
 simp only[Act.put, List.setIfInBounds_toArray];refine wpAnyH_done (by kernel_rfl) ?_ _;refine NoPanic.normal ?_;clear hHeld3;go_wp2_with fail;go_ret;exact⟨rfl, HEND.out⟩
end Go.Proofs.YtnceajanlnnfoaaGreatDoor
namespace Go.Proofs.YtnceajanlnnfoaaGreatDoor
open Go.RowKit Go.Maps
theorem GI.once {B : Nat}{w : World}{g : Nat}{L : List Cc}(h : GI B w g L): L.Pairwise (fun x y => x.1≠y.1) := by
 obtain⟨_, ⟨_, rfl⟩ | ⟨m, D, _, _, _, _, hm⟩⟩ := h
 ·exact List.Pairwise.nil
 ·exact hm.once
theorem j5A {L : List Cc}{k : Int×Int}{ct : Ct}(ho : L.Pairwise (fun x y => x.1≠y.1))(h : ∃c', (k, c')∈L): (putL L k ct).length = L.length := by
 obtain⟨c', hc⟩ := h;unfold putL;rw[List.length_cons, j0X ho hc]
theorem j5B {L : List Cc}{k : Int×Int}{ct : Ct}(h : ∀c', (k, c')∉L): (putL L k ct).length = L.length + 1 := by
 unfold putL;rw[List.length_cons, j17 h]
theorem j4X {B0 : Nat}{w : World}{g : Nat}{L : List Cc}(h : GI B0 w g L){c r : Int}(hc : I64 c)(hr : I64 r):
 ∃B, ((B = true/\∃ct, ((c, r), ct)∈L)∨(B = false/\∀ct, ((c, r), ct)∉L))/\∀wq, Kp w wq Nul->Calls Tryz.prog 59 #[.pointer (some ⟨g, 0, none⟩), .agg #[.int .i64 c, .int .i64 r]] wq fun e w' => e = .returned (.bool B)/\Kp wq w' Nul := by
 obtain⟨mv, v, B, hlk, hv⟩ := j2Q h hc hr;have hlk' : ∀wq, Kp w wq Nul->Lk wq g c r mv v B := fun wq k => ⟨(k.block g (Array.getElem?_eq_some_iff.1 hlk.cell).1 (fun x => x)).trans hlk.cell, fun m hm => ⟨(hlk.ne m hm).1, Nat.lt_of_lt_of_le (hlk.ne m hm).2 k.size⟩, fun w' hw' => hlk.two w' (fun m hm => (hw' m hm).trans (k.block m (hlk.ne m hm).2 (fun x => x))), fun w' hw' => hlk.one w' (fun m hm => (hw' m hm).trans (k.block m (hlk.ne m hm).2 (fun x => x)))⟩
 rcases hv with ⟨rfl, ct, sl, h1, rfl, h3⟩ | ⟨rfl, rfl, h2⟩
 ·exact⟨true, .inl ⟨rfl, ct, h1⟩, fun wq k => j4W g c r mv (ct.cells sl).toArray true wq rfl (ct.one h3.one) (hlk' wq k)⟩
 ·exact⟨false, .inr ⟨rfl, h2⟩, fun wq k => j4W g c r mv _ false wq rfl (Ct.one ⟨0, ⟨0, 0, ⟨#[]⟩, false, 0⟩, zNd⟩ (sl := .slice none 0 0) rfl) (hlk' wq k)⟩
set_option maxRecDepth 20000 in
set_option maxHeartbeats 8000000 in
theorem j5C (B g : Nat)(c r : Int)(hx : vC c r = true)(ct : Ct)(hct : ct.k≠0)(sl : Value)(L : List Cc)(w : World)(h : GI B w g L)(hlen : 4096<=L.length)(hno : ∀c', ((c, r), c')∉L)
 (hval : ∀wq, Kp w wq Nul->Calls Tryz.prog 57 #[ct.val sl] wq fun e w' => e = .returned (.bool true)/\Kp wq w' Nul) :
 Calls Tryz.prog 25 #[.pointer (some ⟨g, 0, none⟩), .agg #[.int .i64 c, .int .i64 r], ct.val sl] w fun e w' => e = .returned (.int .i64 41)/\Kp w w' Nul := by
 have hi : I64 c/\I64 r := by
  have := (Z3 c r).1 hx;unfold I64;omega
 obtain⟨W1, hW1⟩ : ∃W1, (w.alloc (.cells #[.int .i64 c, .int .i64 r] 57)).alloc (.cells (ct.cells sl).toArray 66) = W1 := ⟨_, rfl⟩;have k1 : Kp w W1 Nul := by rw[<- hW1]; exact((Kp.refl w Nul).alloc _).alloc _
 have hA1 : Blk W1 w.heap.size [.int .i64 c, .int .i64 r] 57 := by rw[<- hW1]; exact(Blk.new w [.int .i64 c, .int .i64 r] _).alloc _
 have hC1 : Blk W1 (w.heap.size + 1) (ct.cells sl) 66 := by
  have := Blk.new (w.alloc (.cells #[.int .i64 c, .int .i64 r] 57)) (ct.cells sl) 66;rw[World.size_alloc] at this;rw[<- hW1]; exact this
 have HC1 : Hid (((w.alloc (.cells #[.int .i64 c, .int .i64 r] 57)).alloc (.cells (ct.cells sl).toArray 66)).heap[w.heap.size + 1]? = some (.cells (ct.cells sl).toArray 66 (0, 0))) := by show _ = _; rw[hW1]; exact hC1
 have HW1 : Hid ((w.alloc (.cells #[.int .i64 c, .int .i64 r] 57)).alloc (.cells #[.int .i64 ct.k, .int .i64 ct.v.k, .float .f64 ct.v.x, .string ct.v.s, .bool ct.v.b, .int .i64 ct.v.f, .int .i64 ct.t.hd.k, .int .i64 ct.t.hd.o, .float .f64 ct.t.hd.x, .string ct.t.hd.s, .bool ct.t.hd.b, .int .i64 ct.t.hd.f, .int .i64 ct.t.hd.c1, .int .i64 ct.t.hd.r1, .bool ct.t.hd.p1, .bool ct.t.hd.q1, .int .i64 ct.t.hd.c2, .int .i64 ct.t.hd.r2, .bool ct.t.hd.p2, .bool ct.t.hd.q2, sl] 66) = W1) := hW1;obtain⟨mv, hgb⟩ := h.blk;have hglt0 : g<w.heap.size := hgb.lt;have hgB : B<=g := h.1;have HS : Hid (∀wq, Kp W1 wq Nul->(wq.cell? ⟨w.heap.size, 0, none⟩ = some (.int .i64 c)/\wq.cell? ⟨w.heap.size, 1, none⟩ = some (.int .i64 r)/\wq.cell? ⟨w.heap.size + 1, 0, none⟩ = some (.int .i64 ct.k))) := fun wq k => ⟨(hA1.kp k (fun x => x)).cell rfl, (hA1.kp k (fun x => x)).cell rfl, (hC1.kp k (fun x => x)).cell (i := 0) rfl⟩
 have HV : Hid (Calls Tryz.prog 57 #[ct.val sl] W1 fun e w' => e = .returned (.bool true)/\Kp W1 w' Nul) := hval W1 k1;have HA : Hid (∀w, Calls Tryz.prog 58 #[.agg #[.int .i64 c, .int .i64 r]] w fun e w' => e = .returned (.bool true)/\Kp w w' Nul) := fun w => (j0B c r w).mono fun e w' ⟨h1, h2⟩ => ⟨by rw[h1, hx], by rw[h2]; exact(Kp.refl w Nul).alloc _⟩
 have HK1 : Hid (Kp w W1 Nul) := k1;obtain⟨mv', hgb', hlenq⟩ := j0Z h;have HG : Hid (∀wq, Kp W1 wq Nul->wq.cell? ⟨g, 0, none⟩ = some (.map mv')/\∀ty, (Builtin.len_ #[122] ty #[.map mv']).run Tryz.prog wq = .ok (.int .i64 L.length) wq) := fun wq k => ⟨(hgb'.kp (k1.trans k) (fun x => x)).cell rfl, hlenq wq (k1.trans k)⟩
 obtain⟨b0, hB, hhas⟩ := j4X h hi.1 hi.2;have hBf : b0 = false := by
  rcases hB with hB | hB
  ·obtain⟨_, c', hc'⟩ := hB; exact absurd hc' (hno c')
  ·exact hB.1
 subst hBf;have HH : Hid (∀wq, Kp W1 wq Nul->Calls Tryz.prog 59 #[.pointer (some ⟨g, 0, none⟩), .agg #[.int .i64 c, .int .i64 r]] wq fun e w' => e = .returned (.bool false)/\Kp wq w' Nul) := fun wq k => hhas wq (k1.trans k)
 have hk0 : (ct.k==0) = false := by simpa using hct
 have j : (4096 : Int)<=(L.length : Int) := by omega
 clear hval hW1 k1 hA1 hC1 hx hi hct hglt0 hgB h hlen hno hgb hgb' hlenq hhas hB mv;go_enter Tryz.func25, Tryz.ntmps25;go_wp2_with (first | (refine Y0 rfl (.tmp 5) rfl (w.heap.size + 1) rfl _ HC1.out rfl ?_) | fail);rw[HW1.out];refine HV.out.mono ?_;rintro e w2 ⟨rfl, hk2⟩;obtain⟨a1, a2, a3⟩ := HS.out w2 hk2;have HK2 : Hid (Kp W1 w2 Nul) := hk2;clear hk2 HV HC1 HW1;go_wp2_with fail;refine(HA.out _).mono ?_;rintro e w3 ⟨rfl, hk3⟩;obtain⟨b1, b2, b3⟩ := HS.out w3 (HK2.out.trans hk3);obtain⟨b4, hl3⟩ := HG.out w3 (HK2.out.trans hk3);have HK3 : Hid (Kp W1 w3 Nul) := HK2.out.trans hk3;clear hk3 HA a1 a2 a3 HK2;go_wp2_with fail;refine(HH.out _ HK3.out).mono ?_;rintro e w4 ⟨rfl, hk4⟩;have HK4 : Hid (Kp w w4 Nul) := (HK1.out.trans HK3.out).trans hk4;clear hk4 b1 b2 b3 b4 hl3 HK3;go_wp2_with fail;go_ret;exact⟨rfl, HK4.out⟩
end Go.Proofs.YtnceajanlnnfoaaGreatDoor
namespace Go.Proofs.YtnceajanlnnfoaaGreatDoor
open Go.RowKit Go.Maps
def Sm (w : World) (g : Nat) : Nat->Prop := fun i => i = g∨(w.heap[g]? = some (.cells #[.map (some i)] 124 (0, 0))/\∀cs t f, w.heap[i]? ≠ some (.cells cs t f))
structure Km (g : Nat) (w w' : World) : Prop where
 kp : Kp w w' (Sm w g)
 own : ∀m, w'.heap[g]? = some (.cells #[.map (some m)] 124 (0, 0))->w.heap[g]? = some (.cells #[.map (some m)] 124 (0, 0))∨w.heap.size<=m
theorem Km.trans {g : Nat}{w w1 w2 : World}(h : Km g w w1)(k : Km g w1 w2): Km g w w2 := by
 refine⟨⟨k.kp.os.trans h.kp.os, k.kp.tape.trans h.kp.tape, k.kp.output.trans h.kp.output, Nat.le_trans h.kp.size k.kp.size, fun i hi hs => ?_⟩, fun m hm => ?_⟩
 ·have h1 := h.kp.block i hi hs;refine(k.kp.block i (Nat.lt_of_lt_of_le hi h.kp.size) (fun q => ?_)).trans h1;rcases q with q | ⟨q1, q2⟩
  ·exact hs (.inl q)
  ·rcases h.own i q1 with e | e
   ·exact hs (.inr ⟨e, fun cs t f q => q2 cs t f (h1.trans q)⟩)
   ·omega
 ·rcases k.own m hm with e | e
  ·exact h.own m e
  ·exact .inr (Nat.le_trans h.kp.size e)
theorem Km.of_nul {g : Nat}{w w' : World}(h : Kp w w' Nul)(hg : g<w.heap.size): Km g w w' :=
 ⟨h.of_nul, fun m hm => .inl (by rw[<- h.block g hg (fun x => x)]; exact hm)⟩
theorem j1h {g b : Nat}{w w' : World}{cs : List Value}{t : TypeId}(h : Kp w w' (Sm w g))(hb : Blk w b cs t)(hne : b≠g): Blk w' b cs t :=
 hb.kp h (fun q => by
  rcases q with q | q
  ·exact hne q
  ·exact q.2 _ _ _ hb)
theorem Km.blk {g b : Nat}{w w' : World}{cs : List Value}{t : TypeId}(h : Km g w w')(hb : Blk w b cs t)(hne : b≠g): Blk w' b cs t := j1h h.kp hb hne
theorem j4x {w : World}{g o : Nat}{mv : Option Nat}{k : IntKind}{x : Int}(hg : Blk w g [.map mv] 124)(hc : w.cell? ⟨g, o, none⟩ = some (.int k x)): False := by
 rw[hg.at'] at hc;cases o <;> simp at hc
theorem NdIn.km {g : Nat}{w w' : World}{F : Nat->Prop}{sl : Value}{t : Nd}(h : NdIn w F sl t)(k : Km g w w'){mv : Option Nat}(hg : Blk w g [.map mv] 124): NdIn w' F sl t :=
 h.monoC fun b hb hc => by
  obtain⟨o, q, x, hc⟩ := hc;obtain⟨cs, ty, f, e1, e2⟩ := j3c hc;refine⟨k.kp.block b (Array.getElem?_eq_some_iff.1 e1).1 (fun q => ?_), hb⟩;rcases q with q | q
  ·subst q; exact j4x hg hc
  ·exact q.2 _ _ _ e1
theorem j2Y {w : World}{m n : Nat}{D : DataW Value}(hown : w.ownsMap Tryz.prog 57 rawE m n D): ∀cs t f, w.heap[m]? ≠ some (.cells cs t f) := fun cs t f q => by
 obtain⟨es, clock, h1, _⟩ := hown;rw[h1] at q; cases q
theorem j9.mono {w : World}{F G : Nat->Prop}{g : Nat}{L : List Cc}(h : j9 w F g L)(hFG : ∀i, F i->G i): j9 w G g L := by
 obtain⟨hg, ⟨q1, q2⟩ | ⟨m, D, q1, q2, q3, q4, q5⟩⟩ := h
 ·exact⟨hFG _ hg, .inl ⟨q1, q2⟩⟩
 ·exact⟨hFG _ hg, .inr ⟨m, D, q1, hFG _ q2, q3, q4, ⟨q5.size, q5.rng, q5.keys, fun c r ct hc => by obtain⟨sl, e1, e2⟩ := q5.vals c r ct hc; exact⟨sl, e1, e2.mono (fun b hb _ => ⟨rfl, hFG _ hb⟩)⟩, q5.once⟩⟩⟩
theorem jA8 (G : Nat->Prop)(g : Nat)(c r : Int)(hc : I64 c)(hr : I64 r)(ct : Ct)(sl : Value)(L : List Cc)(w : World)(h : j9 w G g L)(hroom : (putL L (c, r) ct).length<=4096)(hin : NdIn w G sl ct.t)(hnew : ∀i, w.heap.size<=i->G i):
 Calls Tryz.prog 60 #[.pointer (some ⟨g, 0, none⟩), .agg #[.int .i64 c, .int .i64 r], ct.val sl] w fun e w' => e = .returned (.tuple #[])/\j9 w' G g (putL L (c, r) ct)/\Km g w w' := by
 obtain⟨hg, ⟨hb, rfl⟩ | ⟨m, D, hb, hFm, hne, hown, hm⟩⟩ := h
 ·have hb' : Blk w g [.map none] 124 := hb;have hin' : NdIn w (fun b => ((b = g∨(∃cs t f, w.heap[b]? = some (.cells cs t f))∨w.heap.size<=b)/\G b)/\b≠g/\b<w.heap.size) sl ct.t := hin.monoC fun b hG hc => by
   obtain⟨o, q, x, hc⟩ := hc;obtain⟨cs, ty, f, e1, e2⟩ := j3c hc;exact⟨rfl, ⟨.inr (.inl ⟨cs, ty, f, e1⟩), hG⟩, fun e => by subst e; exact j4x hb' hc, (Array.getElem?_eq_some_iff.1 e1).1⟩
  refine(jA7 g c r hc hr ct sl (fun b => (b = g∨(∃cs t f, w.heap[b]? = some (.cells cs t f))∨w.heap.size<=b)/\G b) w hb ⟨.inl rfl, hg⟩ (fun i hi => ⟨.inr (.inr hi), hnew i hi⟩) hin').mono ?_;rintro e w' ⟨rfl, h1, h2⟩;refine⟨rfl, j9.mono h1 (fun i q => q.2), h2.mono (fun i _ e => .inl e), fun m hm => ?_⟩
  ·obtain⟨_, ⟨q1, q2⟩ | ⟨m', D, q1, q2, q3, q4, q5⟩⟩ := h1
   ·rw[q1] at hm; simp at hm
   ·rw[q1] at hm;have e : m' = m :=(by simpa using hm);subst e;rcases q2.1 with q | ⟨cs, t, f, q⟩ | q
    ·exact absurd q q3
    ·exfalso
     refine j2Y q4 cs t f ((h2.block m' (Array.getElem?_eq_some_iff.1 q).1 q3).trans q)
    ·exact .inr q
 ·have hbk : Blk w g [.map (some m)] 124 := hb;have kmof : ∀w', Kp w w' (fun i => i = m)->Km g w w' := fun w' k => ⟨k.mono (fun i _ e => by have e' : i = m := e; subst e'; exact .inr ⟨hb, j2Y hown⟩), fun m' hm' => .inl (by rw[<- k.block g hbk.lt (fun e => hne e.symm)]; exact hm')⟩
  refine(jA9 g m c r hc hr ct sl G D L w hb hg hFm hne hown hm hroom hin (fun w' hk sl t ht => ht.km (kmof w' hk) hbk)).mono ?_;rintro e w' ⟨rfl, h1, h2⟩;exact⟨rfl, h1, kmof w' h2⟩
theorem j9b {w : World}{G : Nat->Prop}{g : Nat}{L : List Cc}(h : j9 w G g L){c r : Int}(hc : I64 c)(hr : I64 r): ∃mv w', w.cell? ⟨g, 0, none⟩ = some (.map mv)/\(∀ty, (Builtin.delete_ #[122, 57] ty #[.map mv, .agg #[.int .i64 c, .int .i64 r]]).run Tryz.prog w = .ok (.tuple #[]) w')/\j9 w' G g (delL L (c, r))/\Km g w w' := by
 have hkey := R4 hc hr;obtain⟨hg, ⟨hb, rfl⟩ | ⟨m, D, hb, hFm, hne, hown, hm⟩⟩ := h
 ·have hbk : Blk w g [.map none] 124 := hb;exact⟨none, w, Blk.cell (cs := [.map none]) hb rfl, fun ty => Maps.drop_nil J5 Tryz.underlying122 hkey ty, ⟨hg, .inl ⟨hb, rfl⟩⟩, Km.of_nul (Kp.refl _ _) hbk.lt⟩
 ·have hbk : Blk w g [.map (some m)] 124 := hb;obtain⟨w', h1, h2, h3⟩ := hown.drop J5 Tryz.underlying122 hkey 0;have k := Kp.of_turned h3;have km : Km g w w' := ⟨k.mono (fun i _ e => by have e' : i = m := e; subst e'; exact .inr ⟨hb, j2Y hown⟩), fun m' hm' => .inl (by rw[<- k.block g hbk.lt (fun e => hne e.symm)]; exact hm')⟩;have hd := j9e hown hm hc hr (fun sl t ht => ht.km km hbk);exact⟨some m, w', Blk.cell (cs := [.map (some m)]) hb rfl, fun ty => h1, ⟨hg, .inr ⟨m, _, (k.block g hbk.lt (fun e => hne e.symm)).trans hb, hFm, hne, h2, hd⟩⟩, km⟩
end Go.Proofs.YtnceajanlnnfoaaGreatDoor
namespace Go.Proofs.YtnceajanlnnfoaaGreatDoor
open Go.RowKit Go.Maps
set_option maxRecDepth 20000 in
set_option maxHeartbeats 8000000 in
theorem j5D (G : Nat->Prop)(g : Nat)(c r : Int)(hx : vC c r = true)(ct : Ct)(hct : ct.k≠0)(sl : Value)(L : List Cc)(w : World)(h : GI 0 w g L)(hG : j9 w G g L)(hnew : ∀i, w.heap.size<=i->G i)(hlen : L.length<=4096)(hroom : L.length<4096∨∃c', ((c, r), c')∈L)
 (hval : ∀wq, Kp w wq Nul->Calls Tryz.prog 57 #[ct.val sl] wq fun e w' => e = .returned (.bool true)/\Kp wq w' Nul)
 (hcp : ∀wq, Kp w wq Nul->Calls Tryz.prog 61 #[ct.val sl] wq fun e w' => ∃sl' fp, e = .returned ((cpC ct).val sl')/\Own w' wq.heap.size sl' (cpC ct).t fp/\Kp wq w' Nul) :
 Calls Tryz.prog 25 #[.pointer (some ⟨g, 0, none⟩), .agg #[.int .i64 c, .int .i64 r], ct.val sl] w fun e w' => e = .returned (.int .i64 0)/\j9 w' G g (putL L (c, r) (cpC ct))/\Km g w w' := by
 have hi : I64 c/\I64 r := by
  have := (Z3 c r).1 hx;unfold I64;omega
 obtain⟨W1, hW1⟩ : ∃W1, (w.alloc (.cells #[.int .i64 c, .int .i64 r] 57)).alloc (.cells (ct.cells sl).toArray 66) = W1 := ⟨_, rfl⟩;have k1 : Kp w W1 Nul := by rw[<- hW1]; exact((Kp.refl w Nul).alloc _).alloc _
 have hA1 : Blk W1 w.heap.size [.int .i64 c, .int .i64 r] 57 := by rw[<- hW1]; exact(Blk.new w [.int .i64 c, .int .i64 r] _).alloc _
 have hC1 : Blk W1 (w.heap.size + 1) (ct.cells sl) 66 := by
  have := Blk.new (w.alloc (.cells #[.int .i64 c, .int .i64 r] 57)) (ct.cells sl) 66;rw[World.size_alloc] at this;rw[<- hW1]; exact this
 have HC1 : Hid (((w.alloc (.cells #[.int .i64 c, .int .i64 r] 57)).alloc (.cells (ct.cells sl).toArray 66)).heap[w.heap.size + 1]? = some (.cells (ct.cells sl).toArray 66 (0, 0))) := by show _ = _; rw[hW1]; exact hC1
 have HW1 : Hid ((w.alloc (.cells #[.int .i64 c, .int .i64 r] 57)).alloc (.cells #[.int .i64 ct.k, .int .i64 ct.v.k, .float .f64 ct.v.x, .string ct.v.s, .bool ct.v.b, .int .i64 ct.v.f, .int .i64 ct.t.hd.k, .int .i64 ct.t.hd.o, .float .f64 ct.t.hd.x, .string ct.t.hd.s, .bool ct.t.hd.b, .int .i64 ct.t.hd.f, .int .i64 ct.t.hd.c1, .int .i64 ct.t.hd.r1, .bool ct.t.hd.p1, .bool ct.t.hd.q1, .int .i64 ct.t.hd.c2, .int .i64 ct.t.hd.r2, .bool ct.t.hd.p2, .bool ct.t.hd.q2, sl] 66) = W1) := hW1;obtain⟨mv, hgb⟩ := h.blk;have hglt0 : g<w.heap.size := hgb.lt;have HGL0 : Hid (g<w.heap.size) := hglt0;have HGL : Hid (g<W1.heap.size) := Nat.lt_of_lt_of_le hglt0 k1.size;have HS : Hid (∀wq, Kp W1 wq Nul->(wq.cell? ⟨w.heap.size, 0, none⟩ = some (.int .i64 c)/\wq.cell? ⟨w.heap.size, 1, none⟩ = some (.int .i64 r)/\wq.cell? ⟨w.heap.size + 1, 0, none⟩ = some (.int .i64 ct.k))) := fun wq k => ⟨(hA1.kp k (fun x => x)).cell rfl, (hA1.kp k (fun x => x)).cell rfl, (hC1.kp k (fun x => x)).cell (i := 0) rfl⟩
 have HV : Hid (Calls Tryz.prog 57 #[ct.val sl] W1 fun e w' => e = .returned (.bool true)/\Kp W1 w' Nul) := hval W1 k1;have HA : Hid (∀w, Calls Tryz.prog 58 #[.agg #[.int .i64 c, .int .i64 r]] w fun e w' => e = .returned (.bool true)/\Kp w w' Nul) := fun w => (j0B c r w).mono fun e w' ⟨h1, h2⟩ => ⟨by rw[h1, hx], by rw[h2]; exact(Kp.refl w Nul).alloc _⟩
 have HK1 : Hid (Kp w W1 Nul) := k1;have HS2 : Hid (∀wq, Kp W1 wq (Sm W1 g)->(wq.cell? ⟨w.heap.size, 0, none⟩ = some (.int .i64 c)/\wq.cell? ⟨w.heap.size, 1, none⟩ = some (.int .i64 r)/\Blk wq (w.heap.size + 1) (ct.cells sl) 66)) := fun wq k => ⟨(j1h k hA1 (by omega)).cell rfl, (j1h k hA1 (by omega)).cell rfl, j1h k hC1 (by omega)⟩
 have HCp : Hid (∀wq, Kp W1 wq Nul->Calls Tryz.prog 61 #[ct.val sl] wq fun e w' => ∃sl' fp, e = .returned ((cpC ct).val sl')/\Own w' wq.heap.size sl' (cpC ct).t fp/\Kp wq w' Nul) := fun wq k => hcp wq (k1.trans k)
 have HKeep : Hid (∀wq sl', Kp W1 wq Nul->NdIn wq (fun b => W1.heap.size<=b/\b<wq.heap.size) sl' (cpC ct).t->Calls Tryz.prog 60 #[.pointer (some ⟨g, 0, none⟩), .agg #[.int .i64 c, .int .i64 r], (cpC ct).val sl'] wq fun e w' => e = .returned (.tuple #[])/\j9 w' G g (putL L (c, r) (cpC ct))/\Km g wq w') := fun wq sl' k hin => by
  refine jA8 G g c r hi.1 hi.2 (cpC ct) sl' L wq (hG.kp (k1.trans k)) ?_ (hin.mono (fun b hb _ => ⟨rfl, hnew b (Nat.le_trans k1.size hb.1)⟩)) (fun i hi => hnew i (Nat.le_trans (k1.trans k).size hi));by_cases hn : ∃c', ((c, r), c')∈L
  ·rw[j5A h.once hn]; exact hlen
  ·rw[j5B (fun c' hc' => hn ⟨c', hc'⟩)];rcases hroom with h | h
   ·omega
   ·exact absurd h hn
 obtain⟨mv', hgb', hlenq⟩ := j0Z h;have HG : Hid (∀wq, Kp W1 wq Nul->wq.cell? ⟨g, 0, none⟩ = some (.map mv')/\∀ty, (Builtin.len_ #[122] ty #[.map mv']).run Tryz.prog wq = .ok (.int .i64 L.length) wq) := fun wq k => ⟨(hgb'.kp (k1.trans k) (fun x => x)).cell rfl, hlenq wq (k1.trans k)⟩
 obtain⟨b0, hB, hhas⟩ := j4X h hi.1 hi.2;have HH : Hid (∀wq, Kp W1 wq Nul->Calls Tryz.prog 59 #[.pointer (some ⟨g, 0, none⟩), .agg #[.int .i64 c, .int .i64 r]] wq fun e w' => e = .returned (.bool b0)/\Kp wq w' Nul) := fun wq k => hhas wq (k1.trans k)
 have HRoom : Hid (¬L.length<4096->b0 = true) := fun hn => by
  rcases hroom with h | h
  ·exact absurd h hn
  ·rcases hB with hB | hB
   ·exact hB.1
   ·obtain⟨c', hc'⟩ := h; exact absurd hc' (hB.2 c')
 have hk0 : (ct.k==0) = false := by simpa using hct
 have HL : Hid (L.length<=4096) := hlen;clear hval hcp hW1 k1 hA1 hC1 hx hi hct hglt0 h hlen hroom hgb hgb' hlenq hhas hB mv;go_enter Tryz.func25, Tryz.ntmps25;go_wp2_with (first | (refine Y0 rfl (.tmp 5) rfl (w.heap.size + 1) rfl _ HC1.out rfl ?_) | fail);rw[HW1.out];refine HV.out.mono ?_;rintro e w2 ⟨rfl, hk2⟩;obtain⟨a1, a2, a3⟩ := HS.out w2 hk2;have HK2 : Hid (Kp W1 w2 Nul) := hk2;clear hk2 HV HC1 HW1;go_wp2_with fail;refine(HA.out _).mono ?_;rintro e w3 ⟨rfl, hk3⟩;obtain⟨b1, b2, b3⟩ := HS.out w3 (HK2.out.trans hk3);obtain⟨b4, hl3⟩ := HG.out w3 (HK2.out.trans hk3);have HK3 : Hid (Kp W1 w3 Nul) := HK2.out.trans hk3;clear hk3 HA a1 a2 a3 HK2;by_cases hl : L.length<4096
 ·have j : ¬(4096 : Int)<=(L.length : Int) := by omega
  have j2 : decide ((4096 : Int)<=(L.length : Int)) = false := by simp; omega
  go_wp2_with fail;refine wp_region_noPanic ?_;refine F5 (fun w' : World => Kp W1 w' (Sm W1 g)) (by kernel_rfl) (HK3.out.of_nul.drew) (fun hHeld => ?_);have tok0 : True := trivial;have tok1 : True := trivial
  iterate 2 ((first | (clear tok0; refine j3 (i := 0) (v := ?_) (some 41) rfl rfl (by kernel_rfl) (fun _ _ _ h => h) (Or.inl ⟨by rfl, ?_⟩) hHeld ?_) | (clear tok1; refine j3 (i := 1) (v := ?_) (some 42) rfl rfl (by kernel_rfl) (fun _ _ _ h => h) (Or.inl ⟨by rfl, ?_⟩) hHeld ?_)); rotate_left; (· intro w hSw; obtain⟨s0, s1, _⟩ := HS2.out _ hSw; clear hSw; go_simp; try with_reducible rfl); simp only[Act.put,Sz0,Sz1,Sz2])
  refine j3 (i := 2) (v := ct.val sl) (some 43) rfl rfl (by kernel_rfl) (fun _ _ _ h => h) (Or.inl ⟨by rfl, fun w' hSw => U5 _ rfl rfl (HS2.out w' hSw).2.2 rfl⟩) hHeld ?_;simp only[Act.put,Sz0,Sz1,Sz2];refine D9 (i := 3) (by kernel_rfl) rfl rfl (fun K hK => ?_);go_simp;refine(HCp.out _ HK3.out.drew).mono ?_;rintro e w4 ⟨sl', fp, rfl, hown, hk4⟩;have hk14 : Kp W1 w4 Nul := HK3.out.drew.trans hk4;have hin4 := hown.isIn.mono (w' := w4) (F' := fun b => W1.heap.size<=b/\b<w4.heap.size) (fun b hB _ => ⟨rfl, by have h1 := hB.1; have h2 := HK3.out.size; have h3 : w3.drew.heap.size = w3.heap.size := rfl; omega, hB.2⟩);refine hK.out _ _ hk14.of_nul (fun hHeld2 => ?_);clear hK K hown hk4;refine D9 (i := 4) (by kernel_rfl) rfl rfl (fun K hK => ?_);go_simp;refine(HKeep.out w4 sl' hk14 hin4).mono ?_;rintro e w5 ⟨rfl, hg5, hk5⟩;refine hK.out _ _ ((Km.of_nul hk14 HGL.out).trans hk5).kp (fun _ => ?_)
  have HEND : Hid (j9 w5 G g (putL L (c, r) (cpC ct))/\Km g w w5) := ⟨hg5, (Km.of_nul (HK1.out.trans hk14) HGL0.out).trans hk5⟩;clear hK K hHeld hHeld2 hg5 hk5 hk14 hin4;refine wpAnyH_done (by kernel_rfl) ?_ _;refine NoPanic.normal ?_;go_wp2_with fail;go_ret;exact⟨rfl, HEND.out⟩
 ·have j : (4096 : Int)<=(L.length : Int) := by omega
  have hBt := HRoom.out hl;subst hBt;go_wp2_with fail;refine(HH.out _ HK3.out).mono ?_;rintro e w3' ⟨rfl, hk3'⟩;have HK3' : Hid (Kp W1 w3' Nul) := HK3.out.trans hk3';clear hk3' b1 b2 b3 b4 hl3 HK3;go_wp2_with fail;refine wp_region_noPanic ?_;refine F5 (fun w' : World => Kp W1 w' (Sm W1 g)) (by kernel_rfl) (HK3'.out.of_nul.drew) (fun hHeld => ?_);have tok0 : True := trivial;have tok1 : True := trivial
  iterate 2 ((first | (clear tok0; refine j3 (i := 0) (v := ?_) (some 41) rfl rfl (by kernel_rfl) (fun _ _ _ h => h) (Or.inl ⟨by rfl, ?_⟩) hHeld ?_) | (clear tok1; refine j3 (i := 1) (v := ?_) (some 42) rfl rfl (by kernel_rfl) (fun _ _ _ h => h) (Or.inl ⟨by rfl, ?_⟩) hHeld ?_)); rotate_left; (· intro w hSw; obtain⟨s0, s1, _⟩ := HS2.out _ hSw; clear hSw; go_simp; try with_reducible rfl); simp only[Act.put,Sz0,Sz1,Sz2])
  refine j3 (i := 2) (v := ct.val sl) (some 43) rfl rfl (by kernel_rfl) (fun _ _ _ h => h) (Or.inl ⟨by rfl, fun w' hSw => U5 _ rfl rfl (HS2.out w' hSw).2.2 rfl⟩) hHeld ?_;simp only[Act.put,Sz0,Sz1,Sz2];refine D9 (i := 3) (by kernel_rfl) rfl rfl (fun K hK => ?_);go_simp;refine(HCp.out _ HK3'.out.drew).mono ?_;rintro e w4 ⟨sl', fp, rfl, hown, hk4⟩;have hk14 : Kp W1 w4 Nul := HK3'.out.drew.trans hk4;have hin4 := hown.isIn.mono (w' := w4) (F' := fun b => W1.heap.size<=b/\b<w4.heap.size) (fun b hB _ => ⟨rfl, by have h1 := hB.1; have h2 := HK3'.out.size; have h3 : w3'.drew.heap.size = w3'.heap.size := rfl; omega, hB.2⟩);refine hK.out _ _ hk14.of_nul (fun hHeld2 => ?_);clear hK K hown hk4;refine D9 (i := 4) (by kernel_rfl) rfl rfl (fun K hK => ?_);go_simp;refine(HKeep.out w4 sl' hk14 hin4).mono ?_;rintro e w5 ⟨rfl, hg5, hk5⟩;refine hK.out _ _ ((Km.of_nul hk14 HGL.out).trans hk5).kp (fun _ => ?_)
  have HEND : Hid (j9 w5 G g (putL L (c, r) (cpC ct))/\Km g w w5) := ⟨hg5, (Km.of_nul (HK1.out.trans hk14) HGL0.out).trans hk5⟩;clear hK K hHeld hHeld2 hg5 hk5 hk14 hin4;refine wpAnyH_done (by kernel_rfl) ?_ _;refine NoPanic.normal ?_;go_wp2_with fail;go_ret;exact⟨rfl, HEND.out⟩
set_option maxRecDepth 20000 in
set_option maxHeartbeats 8000000 in
theorem jBz (G : Nat->Prop)(g : Nat)(c r : Int)(hx : vC c r = true)(ct : Ct)(hct : ct.k = 0)(sl : Value)(L : List Cc)(w : World)(h : j9 w G g L)
 (hval : ∀wq, Kp w wq Nul->Calls Tryz.prog 57 #[ct.val sl] wq fun e w' => e = .returned (.bool true)/\Kp wq w' Nul) :
 Calls Tryz.prog 25 #[.pointer (some ⟨g, 0, none⟩), .agg #[.int .i64 c, .int .i64 r], ct.val sl] w fun e w' => e = .returned (.int .i64 0)/\j9 w' G g (delL L (c, r))/\Km g w w' := by
 have hi : I64 c/\I64 r := by
  have := (Z3 c r).1 hx;unfold I64;omega
 obtain⟨W1, hW1⟩ : ∃W1, (w.alloc (.cells #[.int .i64 c, .int .i64 r] 57)).alloc (.cells (ct.cells sl).toArray 66) = W1 := ⟨_, rfl⟩;have k1 : Kp w W1 Nul := by rw[<- hW1]; exact((Kp.refl w Nul).alloc _).alloc _
 have hA1 : Blk W1 w.heap.size [.int .i64 c, .int .i64 r] 57 := by rw[<- hW1]; exact(Blk.new w [.int .i64 c, .int .i64 r] _).alloc _
 have hC1 : Blk W1 (w.heap.size + 1) (ct.cells sl) 66 := by
  have := Blk.new (w.alloc (.cells #[.int .i64 c, .int .i64 r] 57)) (ct.cells sl) 66;rw[World.size_alloc] at this;rw[<- hW1]; exact this
 have HC1 : Hid (((w.alloc (.cells #[.int .i64 c, .int .i64 r] 57)).alloc (.cells (ct.cells sl).toArray 66)).heap[w.heap.size + 1]? = some (.cells (ct.cells sl).toArray 66 (0, 0))) := by show _ = _; rw[hW1]; exact hC1
 have HW1 : Hid ((w.alloc (.cells #[.int .i64 c, .int .i64 r] 57)).alloc (.cells #[.int .i64 ct.k, .int .i64 ct.v.k, .float .f64 ct.v.x, .string ct.v.s, .bool ct.v.b, .int .i64 ct.v.f, .int .i64 ct.t.hd.k, .int .i64 ct.t.hd.o, .float .f64 ct.t.hd.x, .string ct.t.hd.s, .bool ct.t.hd.b, .int .i64 ct.t.hd.f, .int .i64 ct.t.hd.c1, .int .i64 ct.t.hd.r1, .bool ct.t.hd.p1, .bool ct.t.hd.q1, .int .i64 ct.t.hd.c2, .int .i64 ct.t.hd.r2, .bool ct.t.hd.p2, .bool ct.t.hd.q2, sl] 66) = W1) := hW1;obtain⟨mv, hgb⟩ := GI.blk (B := 0) (j9.mono h (fun _ _ => Nat.zero_le _));have hglt0 : g<w.heap.size := hgb.lt;have HGL0 : Hid (g<w.heap.size) := hglt0;have HS : Hid (∀wq, Kp W1 wq Nul->(wq.cell? ⟨w.heap.size, 0, none⟩ = some (.int .i64 c)/\wq.cell? ⟨w.heap.size, 1, none⟩ = some (.int .i64 r)/\wq.cell? ⟨w.heap.size + 1, 0, none⟩ = some (.int .i64 ct.k))) := fun wq k => ⟨(hA1.kp k (fun x => x)).cell rfl, (hA1.kp k (fun x => x)).cell rfl, (hC1.kp k (fun x => x)).cell (i := 0) rfl⟩
 have HV : Hid (Calls Tryz.prog 57 #[ct.val sl] W1 fun e w' => e = .returned (.bool true)/\Kp W1 w' Nul) := hval W1 k1;have HA : Hid (∀w, Calls Tryz.prog 58 #[.agg #[.int .i64 c, .int .i64 r]] w fun e w' => e = .returned (.bool true)/\Kp w w' Nul) := fun w => (j0B c r w).mono fun e w' ⟨h1, h2⟩ => ⟨by rw[h1, hx], by rw[h2]; exact(Kp.refl w Nul).alloc _⟩
 have HK1 : Hid (Kp w W1 Nul) := k1;have HD : Hid (∀wq, Kp W1 wq Nul->j9 wq G g L) := fun wq k => h.kp (k1.trans k)
 have HI : Hid (I64 c/\I64 r) := hi;rw[hct] at HS;clear hval hW1 k1 hA1 hC1 hx hi hct hglt0 h hgb mv;go_enter Tryz.func25, Tryz.ntmps25;go_wp2_with (first | (refine Y0 rfl (.tmp 5) rfl (w.heap.size + 1) rfl _ HC1.out rfl ?_) | fail);rw[HW1.out];refine HV.out.mono ?_;rintro e w2 ⟨rfl, hk2⟩;obtain⟨a1, a2, a3⟩ := HS.out w2 hk2;have HK2 : Hid (Kp W1 w2 Nul) := hk2;clear hk2 HV HC1 HW1;go_wp2_with fail;refine(HA.out _).mono ?_;rintro e w3 ⟨rfl, hk3⟩;obtain⟨b1, b2, b3⟩ := HS.out w3 (HK2.out.trans hk3);have hk13 : Kp W1 w3 Nul := HK2.out.trans hk3;obtain⟨mv, W4, hmc, hdel, hl4, hk4⟩ := j9b (HD.out w3.drew hk13.drew) HI.out.1 HI.out.2;have HEND : Hid (j9 W4 G g (delL L (c, r))/\Km g w W4) := ⟨hl4, (Km.of_nul ((HK1.out.trans hk13).drew) HGL0.out).trans hk4⟩;have d2 : w3.cell? ⟨g, 0, none⟩ = some (.map mv) := hmc;clear hk3 HA a1 a2 a3 HK2 hl4 hk4 hmc hk13 HD;go_wp2_with fail
 go_region
 all_goals
  go_wp2_with fail;go_ret;exact⟨rfl, HEND.out⟩
end Go.Proofs.YtnceajanlnnfoaaGreatDoor
namespace Go.Proofs.YtnceajanlnnfoaaGreatDoor
open Go.RowKit Go.Maps
def GRg (w : World) (A : Nat) (mv : Option Nat) (r : Nat) (rem : List Cc) : Prop :=
 rem.Pairwise (fun x y => x.1≠y.1)/\(∀x∈rem, I64 x.1.1/\I64 x.1.2) /\
 ((mv = none/\rem = []/\w.heap[r]? = some (.mapIter none 0 #[] 0)) ∨
 ∃m D left cnt, mv = some m/\m<A/\w.ranges Tryz.prog 57 rawE m r 4096 D left cnt/\(∀c s, I64 c->I64 s->(left (kl c s) = true↔∃ct, ((c, s), ct)∈rem)) /\
  (∀c s ct, ((c, s), ct)∈rem->∃sl, D.atKey (kl c s) (.held zCv) = .held (ct.val sl)/\NdIn w (fun b => b<A) sl ct.t))
def glen (w : World) (mv : Option Nat) (r : Nat) : Nat := match mv with | none => 0 | some m => w.rangeLeft m r
theorem j5R {w w' : World}{m r n cnt : Nat}{D : DataW Value}{left : Lit->Bool}(h : w.ranges Tryz.prog 57 rawE m r n D left cnt)(hm : w'.heap[m]? = w.heap[m]?)(hr : w'.heap[r]? = w.heap[r]?): w'.ranges Tryz.prog 57 rawE m r n D left cnt := by
 obtain⟨es, clock, since, seen, c0, h1, h2, h3, h4, h5, h6⟩ := h;exact⟨es, clock, since, seen, c0, hm.trans h1, h2, h3, h4, hr.trans h5, h6⟩
theorem GRg.keep {w w' : World}{A : Nat}{mv : Option Nat}{r : Nat}{rem : List Cc}(h : GRg w A mv r rem)(k : Below A w w')(hr : w'.heap[r]? = w.heap[r]?): GRg w' A mv r rem := by
 obtain⟨h1, h2, h3⟩ := h;refine⟨h1, h2, ?_⟩;rcases h3 with ⟨e1, e2, e3⟩ | ⟨m, D, left, cnt, e1, e2, e3, e4, e5⟩
 ·exact .inl ⟨e1, e2, hr.trans e3⟩
 ·exact .inr ⟨m, D, left, cnt, e1, e2, j5R e3 (k.block m e2) hr, e4, fun c s ct hc => by obtain⟨sl, q1, q2⟩ := e5 c s ct hc; exact⟨sl, q1, q2.mono (fun b hb _ => ⟨k.block b hb, hb⟩)⟩⟩
theorem GRg.glen {w w' : World}{A : Nat}{mv : Option Nat}{r : Nat}{rem : List Cc}(h : GRg w A mv r rem)(k : Below A w w')(hr : w'.heap[r]? = w.heap[r]?): Go.Proofs.YtnceajanlnnfoaaGreatDoor.glen w' mv r = Go.Proofs.YtnceajanlnnfoaaGreatDoor.glen w mv r := by
 obtain⟨_, _, h3⟩ := h;rcases h3 with ⟨e1, _⟩ | ⟨m, D, left, cnt, e1, e2, e3, _⟩
 ·subst e1; rfl
 ·subst e1;show w'.rangeLeft m r = w.rangeLeft m r;rw[(j5R e3 (k.block m e2) hr).left_eq, e3.left_eq]
theorem GI.low {w : World}{g : Nat}{L : List Cc}(h : GI 0 w g L): j9 w (fun b => b<w.heap.size) g L := by
 obtain⟨_, ⟨hb, e⟩ | ⟨m, D, hb, _, hne, hown, hm⟩⟩ := h
 ·exact⟨(Array.getElem?_eq_some_iff.1 hb).1, .inl ⟨hb, e⟩⟩
 ·exact⟨(Array.getElem?_eq_some_iff.1 hb).1, .inr ⟨m, D, hb, hown.lt, hne, hown, ⟨hm.size, hm.rng, hm.keys, fun c r ct hc => by obtain⟨sl, e1, e2⟩ := hm.vals c r ct hc; exact⟨sl, e1, e2.mono (fun b _ hb => ⟨rfl, hb⟩)⟩, hm.once⟩⟩⟩
theorem j6q (w : World){ops : Array Oper}{rest : List Oper}{o : Oper}{a : Act}{Q : Exit->Act->World->Prop}(hg : o.guard = none)(x : Operand)(hop : o.op = Op.range 122 x)
 (g : Nat) (L : List Cc) (mv : Option Nat) (A : Nat) (hx : a.eval x = .map mv) (hL : j9 w (fun b => b<A) g L) (hgb : Blk w g [.map mv] 124)
 (hK : ∀w', GRg w' A mv w.heap.size L->w.grownBy w' none->w'.heap.size = w.heap.size + 1->wpList Tryz.prog ops Q rest (a.put o.dst (.pointer (some ⟨w.heap.size, 0, none⟩))) w') :
 wpList Tryz.prog ops Q (o::rest) a w := by
 obtain⟨_, ⟨hb, rfl⟩ | ⟨m, D, hb, hFm, hne, hown, hmh⟩⟩ := hL
 ·have e : mv = none := by
   have q := hgb.symm.trans hb
   simpa using q
  subst e;refine wpList_plain hg fun K hK' => ?_
  have hrun : (Instr.range 122 (.map none)).run Tryz.prog w = .ok (.pointer (some ⟨w.heap.size, 0, none⟩)) (w.alloc (.mapIter none 0 #[] 0)) := by
   simp[Instr.range, Sem.run_bind, run_underlying Tryz.underlying122 w]
  unfold Oper.wp;simp[execOp, hop, hx, hrun, Result.andThen];exact hK' _ _ (hK _ ⟨List.Pairwise.nil, fun x hx => by simp at hx, .inl ⟨rfl, rfl, heap_alloc_new _ _⟩⟩ (World.grownBy_alloc w _ none) (by rw[World.size_alloc]))
 ·have e : mv = some m := by
   have q := hgb.symm.trans hb
   simpa using q
  subst e;refine wpList_range_own w hg x 122 hop 57 66 J5 Tryz.underlying122 _ m 4096 D hx hown (fun w' h1 h2 h3 => ?_);have k : Kp w w' Nul := Kp.of_grown h2 (fun i e => by cases e);exact hK w' ⟨hmh.once, hmh.rng, .inr ⟨m, D, _, _, rfl, hFm, h1, fun c s hc hs => hmh.keys c s hc hs, fun c s ct hc => by obtain⟨sl, q1, q2⟩ := hmh.vals c s ct hc; exact⟨sl, q1, q2.kp k (fun _ _ x => x)⟩⟩⟩ h2 h3
set_option maxRecDepth 20000 in
theorem j6p (w : World){ops : Array Oper}{rest : List Oper}{o : Oper}{a : Act}{Q : Exit->Act->World->Prop}(hg : o.guard = none)(it : Operand)(hop : o.op = Op.next it false)
 (A : Nat) (mv : Option Nat) (r : Nat) (rem : List Cc) (hit : a.eval it = .pointer (some ⟨r, 0, none⟩)) (h : GRg w A mv r rem) (hA : A<=r)
 (hDone : rem = []->wpList Tryz.prog ops Q rest (a.put o.dst (.tuple #[.bool false])) w)
 (hMore : ∀(c s : Int) (ct : Ct) (sl : Value) (w' : World), ((c, s), ct)∈rem->NdIn w' (fun b => b<A) sl ct.t->GRg w' A mv r (rem.filter (fun x => decide (x.1≠(c, s))))->glen w' mv r<glen w mv r->w.grownBy w' (some r)->w'.heap.size = w.heap.size ->
  (Instr.entry (.pointer (some ⟨r, 0, none⟩))).run Tryz.prog w' = .ok (.tuple #[.agg #[.int .i64 c, .int .i64 s], ct.val sl]) w'->wpList Tryz.prog ops Q rest (a.put o.dst (.tuple #[.bool true, .agg #[.int .i64 c, .int .i64 s], ct.val sl])) w') :
 wpList Tryz.prog ops Q (o::rest) a w := by
 obtain⟨h1, h2, h3⟩ := h;rcases h3 with ⟨rfl, rfl, e3⟩ | ⟨m, D, left, cnt, rfl, e2, e3, e4, e5⟩
 ·refine wpList_plain hg fun K hK' => ?_
  have hrun : (Instr.next (.pointer (some ⟨r, 0, none⟩)) false o.type).run Tryz.prog w = .ok (.tuple #[.bool false]) w := by
   simp[Instr.next, getObj, Sem.run_bind, Sem.run, e3, Result.andThen]
  unfold Oper.wp;simp[execOp, hop, hit, hrun, Result.andThen];exact hK' _ _ (hDone rfl)
 ·refine jFK w hg it hop m r 4096 D left cnt hit e3 (fun _ hl => ?_) (fun x cv w' cnt' hi hlx hat hrg hlt hgr hsz hen => ?_)
  ·refine hDone ?_;cases rem with
   | nil => rfl
   | cons y ys =>
    exfalso
    obtain⟨⟨yc, ys'⟩, yt⟩ := y;have hy := h2 _ (List.mem_cons_self);have := (e4 yc ys' hy.1 hy.2).2 ⟨yt, List.mem_cons_self⟩;rw[hl] at this; cases this
  ·obtain⟨ct, hct⟩ := (e4 x.1 x.2 hi.1 hi.2).1 hlx;obtain⟨sl, q1, q2⟩ := e5 x.1 x.2 ct hct;have hcv : cv = ct.val sl := by
    have := (hat (.held zCv)).symm.trans q1;exact DataW.held.inj this
   subst hcv;have kb : Below A w w' := ⟨hgr.os, hgr.tape, hgr.output, hgr.size, fun i hi' => hgr.block i (by have := e3.lt; omega) (fun e => by have := Option.some.inj e; omega)⟩;have hT : ∀sl t, NdIn w (fun b => b<A) sl t->NdIn w' (fun b => b<A) sl t :=(fun sl t q => q.mono (fun b hb _ => ⟨kb.block b hb, hb⟩));refine hMore x.1 x.2 ct sl w' hct (hT _ _ q2) ⟨List.Pairwise.filter _ h1, fun y hy => h2 y (List.mem_filter.1 hy).1, .inr ⟨m, D, _, cnt', rfl, e2, hrg, fun c s hc hs => ?_, fun c s ct' hc => ?_⟩⟩ ?_ hgr hsz hen
   ·have j7 : (kl c s).sameKey (kl x.1 x.2) = true↔(c, s) = (x.1, x.2) := by
     constructor
     ·intro hk;by_cases e : (c, s) = (x.1, x.2)
      ·exact e
      ·have : kl c s≠kl x.1 x.2 :=(fun e' => e (by have := j1C hc hs hi.1 hi.2 e'; exact Prod.ext this.1 this.2));rw[Maps.sameKey_ne this] at hk; cases hk
     ·intro e;have e1 := congrArg Prod.fst e;have e2' := congrArg Prod.snd e;simp only at e1 e2';subst e1 e2';exact WideAt.sameKey_self (J5.key (R4 hi.1 hi.2))
    simp only[Bool.and_eq_true, Bool.not_eq_true'];constructor
    ·rintro⟨q3, q4⟩;obtain⟨ct', hc'⟩ := (e4 c s hc hs).1 q3;refine⟨ct', List.mem_filter.2 ⟨hc', ?_⟩⟩;have : (c, s)≠(x.1, x.2) :=(fun e => by rw[j7.2 e] at q4; cases q4);exact decide_eq_true this
    ·rintro⟨ct', hc'⟩;obtain⟨q3, q4⟩ := List.mem_filter.1 hc';refine⟨(e4 c s hc hs).2 ⟨ct', q3⟩, ?_⟩;have hne : (c, s)≠(x.1, x.2) := of_decide_eq_true q4;cases hk : (kl c s).sameKey (kl x.1 x.2)
     ·rfl
     ·exact absurd (j7.1 hk) hne
   ·obtain⟨sl', p1, p2⟩ := e5 c s ct' (List.mem_filter.1 hc).1;exact⟨sl', p1, hT _ _ p2⟩
   ·show w'.rangeLeft m r<w.rangeLeft m r;rw[hrg.left_eq, e3.left_eq]; exact hlt
end Go.Proofs.YtnceajanlnnfoaaGreatDoor
namespace Go.Proofs
open Go.Shelf
def Tryz.laysValid_ren : Go.Shelf.Ren := ⟨fun | 196 => 158 | 259 => 185 | n => n, fun | 9 => 9 | 4 => 4 | 3 => 3 | 5 => 5 | 12 => 12 | 119 => 241 | 0 => 0 | 46 => 99 | 139 => 244 | 138 => 243 | 53 => 80 | n => n, fun | 3 => 2 | 4 => 3 | n => n⟩
theorem Tryz.laysValid: Go.Proofs.Lays.n196 Tryz.prog Tryz.laysValid_ren := {
 mixed := by kernel_rfl
 f196 := Tryz.func158.trans (congrArg some (by kernel_rfl))
 f259 := Tryz.func185.trans (congrArg some (by kernel_rfl))
 t0 := Tryz.underlying0
 a0 := Tryz.isAgg0
 z0 := Tryz.sizeOf0
 v0 := Tryz.zeroValue0
 t3 := Tryz.underlying3
 a3 := Tryz.isAgg3
 z3 := Tryz.sizeOf3
 v3 := Tryz.zeroValue3
 t4 := Tryz.underlying4
 a4 := Tryz.isAgg4
 z4 := Tryz.sizeOf4
 v4 := Tryz.zeroValue4
 t5 := Tryz.underlying5
 a5 := Tryz.isAgg5
 z5 := Tryz.sizeOf5
 v5 := Tryz.zeroValue5
 t9 := Tryz.underlying9
 a9 := Tryz.isAgg9
 z9 := Tryz.sizeOf9
 v9 := Tryz.zeroValue9
 t12 := Tryz.underlying12
 a12 := Tryz.isAgg12
 z12 := Tryz.sizeOf12
 v12 := Tryz.zeroValue12
 t46 := Tryz.underlying99
 a46 := Tryz.isAgg99
 z46 := Tryz.sizeOf99
 v46 := Tryz.zeroValue99
 t53 := Tryz.underlying80
 a53 := Tryz.isAgg80
 z53 := Tryz.sizeOf80
 v53 := Tryz.zeroValue80
 t119 := Tryz.underlying241
 a119 := Tryz.isAgg241
 z119 := Tryz.sizeOf241
 t138 := Tryz.underlying243
 a138 := Tryz.isAgg243
 z138 := Tryz.sizeOf243
 v138 := Tryz.zeroValue243
 t139 := Tryz.underlying244
 a139 := Tryz.isAgg244
 z139 := Tryz.sizeOf244
 v139 := Tryz.zeroValue244
 g3 := by kernel_rfl
 g4 := by kernel_rfl }
end Go.Proofs
namespace Go.Proofs.YtnceajanlnnfoaaGreatDoor
open Go.RowKit Go.Maps
theorem jEo {w : World}(hT : Lib.Utf8Tabs (Tryz.laysValid_ren.g 3) (Tryz.laysValid_ren.g 4) w): VS w := fun s wq hs hk => by
 have hc : ∀ {b j : Nat} {v : Value}, w.cell? ⟨b, j, none⟩ = some v->wq.cell? ⟨b, j, none⟩ = some v := fun {b j v} h => by
  have := hk.block b (G7 h) (fun x => x);simp only[World.cell?] at h ⊢;rw[this]; exact h
 have hT' : Lib.Utf8Tabs (Tryz.laysValid_ren.g 3) (Tryz.laysValid_ren.g 4) wq := ⟨fun c h => hc (hT.1 c h), fun i h => ⟨hc (hT.2 i h).1, hc (hT.2 i h).2⟩⟩;refine(Any.utf8_ValidString Tryz.laysValid s wq (by omega) hT').mono ?_;rintro e w' ⟨h1, h2⟩;exact⟨h1, Kp.of_below h2⟩
def ct0 : Ct := ⟨0, ⟨0, 0, ⟨#[]⟩, false, 0⟩, zNd⟩
section
variable {w w2 u u' : World} {g : Nat} {L L' : List Cc}
end
end Go.Proofs.YtnceajanlnnfoaaGreatDoor
namespace Go.Proofs.YtnceajanlnnfoaaGreatDoor
open Go.RowKit Go.Maps
section
variable {w w2 u u' : World} {g p1 p2 : Nat} {x y : Int} {L L' : List Cc}
end
mutual
theorem NdIn.monoR {w w' : World}{F F' : Nat->Prop}(hF : ∀b, F b->(∃o h sl, w.rangeAt b o (Hd.cells h sl))->w'.heap[b]? = w.heap[b]? /\ F' b){sl : Value}: ∀ {t : Nd}, NdIn w F sl t->NdIn w' F' sl t
 | .mk _ ts, h => by
  rw[NdIn] at h ⊢;obtain⟨a, c, h1, h2, h3, h4⟩ := h;refine⟨a, c, h1, h2, h3, ?_⟩;rcases h4 with h4 | ⟨b, o, h4, h5, h6⟩
  ·exact .inl h4
  ·cases ts with
   | nil =>
    subst h4;exact .inl ⟨rfl, .inr (by simp)⟩
   | cons t ts =>
    have hb : ∃o h sl, w.rangeAt b o (Hd.cells h sl) := by
     rw[z8] at h6;obtain⟨⟨_, h7, _⟩, _⟩ := h6;exact⟨o, _, _, h7⟩
    exact .inr ⟨b, o, h4, (hF b h5 hb).2, z8.monoR hF (hF b h5 hb).1 h6⟩
theorem z8.monoR {w w' : World}{F F' : Nat->Prop}(hF : ∀b, F b->(∃o h sl, w.rangeAt b o (Hd.cells h sl))->w'.heap[b]? = w.heap[b]? /\ F' b){b : Nat}(hb : w'.heap[b]? = w.heap[b]?): ∀ {ts : List Nd} {o : Nat}, z8 w F b o ts->z8 w' F' b o ts
 | [], _, _ => by rw[z8]; trivial
 | t::ts, o, h => by
  rw[z8] at h ⊢;obtain⟨⟨sl, h1, h2⟩, h3⟩ := h;exact⟨⟨sl, J2 h1 hb, NdIn.monoR hF h2⟩, z8.monoR hF hb h3⟩
end
end Go.Proofs.YtnceajanlnnfoaaGreatDoor
