/-A map by cells: its keys; its elements as they stand (raw). -/
import Derived.Test.YtecjfnkakodebaaGreatDoorQwGb
import Derived.Maps.OwnSet
import Derived.Maps.RangeWalk
import Derived.Maps.Ext
import Derived.DeepKeys4
set_option maxRecDepth 20000
namespace Go.Proofs.YtecjfnkakodebaaGreatDoor
open Go.RowKit Go.Maps
theorem laidOutP:laidOutB Tryz.prog=true:=by kernel_rfl
theorem rowAddr:(32:TypeId) < Tryz.prog.types.size:=of_decide_eq_true (by kernel_rfl)
theorem cellsAddr2:Tryz.prog.cellsOf 32=2:=by kernel_rfl
theorem cellsInt1:Tryz.prog.cellsOf 3=1:=by kernel_rfl
theorem wideAddr:(match Tryz.prog.underlying 32 with|some (.array _ _)|some (.struct _)=>true|_=>false)=true:=by rw[Tryz.underlying32]
theorem keyAtAddr:Tryz.prog.keyTypeAt 2 32=true:=by kernel_rfl
theorem lawAddr:Keyed Tryz.prog 32:=Keyed.of_law (deep_law_laid laidOutP (m:=2) (by decide) rowAddr keyAtAddr wideAddr)
theorem keyTypeAddr:Tryz.prog.keyType 32=true:=by kernel_rfl
theorem formedAddr {c0 c1:Value}:(Value.agg #[c0,c1]).formed Tryz.prog 32=true:=by simp[Value.formed,Tryz.underlying32,cellsAddr2]
def I64 (x:Int):Prop:=-9223372036854775808<=x/\x<=9223372036854775807
theorem I64.wf {x:Int} (h:I64 x):(Lit.int .i64 x).wf=true:=by
 obtain⟨h1,h2⟩:=h
 exact WalkArith.wf_i64 (by omega)
theorem keyOf_addr (c r:Int) (hc:I64 c) (hr:I64 r):∃l,keyOf Tryz.prog 32 (.agg #[.int .i64 c,.int .i64 r])=some l:=by
 unfold keyOf
 rw[Tryz.underlying32]
 simp only[keyTypeAddr,formedAddr,Bool.and_self,if_true]
 obtain⟨n,hn⟩:∃n,Tryz.prog.types.size=n+1:=by
  have h:=rowAddr
  generalize Tryz.prog.types.size=s at h
  cases s with
  | zero=>exact absurd h (Nat.not_lt_zero _)
  | succ n=>exact⟨n,rfl⟩
 rw[hn]
 simp[Program.keyLits,Tryz.underlying32,Tryz.underlying3,Value.cells,cellsInt1,cellsAddr2,hc.wf,hr.wf]
end Go.Proofs.YtecjfnkakodebaaGreatDoor
