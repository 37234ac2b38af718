/- To's last statement, in a frame of its own: the two results laid. -/
import Derived.Test.YtckjmcfncfoboaaDoorNf
import Derived.Deep.CutRange
import Derived.Deep.DeepCutAuto
namespace Go.Proofs.YtckjmcfncfoboaaDoor
open Go.RowKit

set_option maxHeartbeats 16000000 in
set_option maxRecDepth 20000 in
theorem to_last {vV vK : Value} {mode e2 q2 h : Int} {wh : Bool} {S S1 F1 F2 R1 R2 : Nat} {a b c f0 f1 : Bool} {f2 f3 : Int} {u14 u15 u16 u17 u18 u19 u20 u21 u22 u23 u24 u25 u26 u27 u28 u29 u30 u31 u32 u33 u34 u35 u36 u37 u38 u39 u40 u41 u42 u43 u44 u45 u46 u47 u48 u49 u50 u51 u52 u53 u54 u55 u56 u57 u58 u59 u60 u61 u62 u63 u64 u65 u66 u67 u68 u69 u70 u71 u72 u73 u74 u75 u76 u77 u78 u79 u80 u81 u82 u83 u84 u85 u86 u87 u88 u89 u90 u91 u92 u93 u94 u95 u96 u97 u98 u99 u100 u101 u102 u103 u104 u105 u106 u107 u108 u109 u110 u111 u112 u113 u114 u115 u116 u117 u118 u119 u120 u121 u122 u123 u124 u125 u126 u127 u128 u129 u130 u131 u132 u133 u134 u135 u136 u137 u138 u139 u140 u141 u142 u143 u144 u145 u146 u147 u148 u149 u150 u151 u152 u153 u154 u155 u156 u157 u158 u159 u160 u161 u162 : Value} {w wc : World}
    (d1 : R1 ≠ F1) (d2 : R1 ≠ F2) (d3 : R2 ≠ F1) (d4 : R2 ≠ F2) (d5 : F1 ≠ F2)
    (x10 : wc.cell? ⟨R1, 0, none⟩ = some (.bool a)) (x11 : wc.cell? ⟨R1, 1, none⟩ = some (.bool b)) (x12 : wc.cell? ⟨R1, 2, none⟩ = some (.bool c))
    (x20 : wc.cell? ⟨R2, 0, none⟩ = some (.bool f0)) (x21 : wc.cell? ⟨R2, 1, none⟩ = some (.bool f1)) (x22 : wc.cell? ⟨R2, 2, none⟩ = some (.int .u64 f2)) (x23 : wc.cell? ⟨R2, 3, none⟩ = some (.int .i64 f3))
    (x30 : wc.cell? ⟨F1, 0, none⟩ = some (.bool false)) (y30 : wc.frozen? ⟨F1, 0, none⟩ = false) (x31 : wc.cell? ⟨F1, 1, none⟩ = some (.bool false)) (y31 : wc.frozen? ⟨F1, 1, none⟩ = false) (x32 : wc.cell? ⟨F1, 2, none⟩ = some (.int .u64 0)) (y32 : wc.frozen? ⟨F1, 2, none⟩ = false) (x33 : wc.cell? ⟨F1, 3, none⟩ = some (.int .i64 0)) (y33 : wc.frozen? ⟨F1, 3, none⟩ = false)
    (x40 : wc.cell? ⟨F2, 0, none⟩ = some (.bool false)) (y40 : wc.frozen? ⟨F2, 0, none⟩ = false) (x41 : wc.cell? ⟨F2, 1, none⟩ = some (.bool false)) (y41 : wc.frozen? ⟨F2, 1, none⟩ = false) (x42 : wc.cell? ⟨F2, 2, none⟩ = some (.bool false)) (y42 : wc.frozen? ⟨F2, 2, none⟩ = false)
    {P : Ending → World → Prop} {K : Act → World → Prop} (hK : ∀ (x : Act) (z : World), Code.wp Tryd.prog Code.ret (bodyPost Tryd.prog Tryd.f56 P) x z → K x z) (HP : Hid (∀ W, Gr w W → P (.returned (.tuple #[.agg #[.bool f0, .bool f1, .int .u64 f2, .int .i64 f3], .agg #[.bool a, .bool b, .bool c]])) W)) (hg : Hid (Gr w wc)) (h2 : Hid (w.heap.size ≤ F1)) (h3 : Hid (w.heap.size ≤ F2)) :
    Code.wp Tryd.prog
    (Code.region 23
      #[{ dst := some 161, op := Op.load 90 (Operand.tmp 13), type := 90, pos := "ref.go:127", after := #[],
          guard := none },
        { dst := some 162, op := Op.load 36 (Operand.tmp 12), type := 36, pos := "ref.go:127",
          after := #[{ on := 2, ground := Ground.gcOnly Departure.lateStores }], guard := none },
        { dst := none, op := Op.store 90 (Operand.tmp 6) (Operand.tmp 161), type := 0, pos := "ref.go:127",
          after :=
            #[{ on := 0, ground := Ground.data }, { on := 0, ground := Ground.phase },
              { on := 1, ground := Ground.textOnly Departure.lateStores }],
          guard := none },
        { dst := none, op := Op.store 36 (Operand.tmp 7) (Operand.tmp 162), type := 0, pos := "ref.go:127",
          after :=
            #[{ on := 1, ground := Ground.data }, { on := 2, ground := Ground.chain },
              { on := 0, ground := Ground.phase }, { on := 1, ground := Ground.phase },
              { on := 2, ground := Ground.phase }],
          guard := none }]
      true)
    (Exit.then K (bodyPost Tryd.prog Tryd.f56 P))
    {
      tmps :=
        #[vV, vK, Value.int IntKind.i64 mode, Value.pointer (some { block := S, off := 0 }),
          Value.pointer (some { block := S1, off := 0 }), undef,
          Value.pointer (some { block := F1, off := 0 }),
          Value.pointer (some { block := F2, off := 0 }), Value.int IntKind.i64 e2, Value.int IntKind.u64 q2,
          Value.int IntKind.i64 h, Value.bool wh, Value.pointer (some { block := R1, off := 0 }),
          Value.pointer (some { block := R2, off := 0 }), u14, u15, u16, u17, u18, u19, u20, u21, u22, u23, u24, u25, u26, u27, u28, u29, u30, u31, u32, u33, u34, u35, u36, u37, u38, u39, u40, u41, u42, u43, u44, u45, u46, u47, u48, u49, u50, u51, u52, u53, u54, u55, u56, u57, u58, u59, u60, u61, u62, u63, u64, u65, u66, u67, u68, u69, u70, u71, u72, u73, u74, u75, u76, u77, u78, u79, u80, u81, u82, u83, u84, u85, u86, u87, u88, u89, u90, u91, u92, u93, u94, u95, u96, u97, u98, u99, u100, u101, u102, u103, u104, u105, u106, u107, u108, u109, u110, u111, u112, u113, u114, u115, u116, u117, u118, u119, u120, u121, u122, u123, u124, u125, u126, u127, u128, u129, u130, u131, u132, u133, u134, u135, u136, u137, u138, u139, u140, u141, u142, u143, u144, u145, u146, u147, u148, u149, u150, u151, u152, u153, u154, u155, u156, u157, u158, u159, u160, u161, u162],
      defers := [] }
    wc := by
  go_region
  all_goals
    refine hK _ _ ?_
    go_wp2
    refine bodyPost_ret (v := .tuple #[.agg #[.bool f0, .bool f1, .int .u64 f2, .int .i64 f3], .agg #[.bool a, .bool b, .bool c]]) (by simp [results, Tryd.results56, go_sem, *]) rfl (HP.out _ ?_)
    exact (((((((hg.out.setCell _ _ h2.out).setCell _ _ h2.out).setCell _ _ h2.out).setCell _ _ h2.out).setCell _ _ h3.out).setCell _ _ h3.out).setCell _ _ h3.out).drew
end Go.Proofs.YtckjmcfncfoboaaDoor
