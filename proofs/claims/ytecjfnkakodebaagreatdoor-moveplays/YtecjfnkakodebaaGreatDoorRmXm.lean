/-A map by cells: its keys; its elements as they stand (raw). -/
import Derived.Test.YtecjfnkakodebaaGreatDoorRmAx
import Derived.Maps.OwnSet
import Derived.Maps.RangeWalk
import Derived.Maps.Ext
import Derived.DeepKeys4
open Go.Proofs.Tryz
open Go.Value renaming int->O,agg->T
open Go.IntKind renaming i64->I
open Bool renaming false->R,true->J
open Option renaming some->H
set_option maxRecDepth 20000
namespace Go.Proofs.YtecjfnkakodebaaGreatDoor
open Go.RowKit Go.Maps
theorem jAj:laidOutB prog=J:=by kernel_rfl
theorem j3l:(32:TypeId) < prog.types.size:=of_decide_eq_true (by kernel_rfl)
theorem j1g:prog.cellsOf 32=2:=by kernel_rfl
theorem j4X:prog.cellsOf 3=1:=by kernel_rfl
theorem jEc:(match prog.underlying 32 with|some (.array _ _)|some (.struct _)=>J|_=>R)=J:=by rw[underlying32]
theorem jAd:prog.keyTypeAt 2 32=J:=by kernel_rfl
theorem Q2:Keyed prog 32:=Keyed.of_law (deep_law_laid jAj (m:=2) (by decide) j3l jAd jEc)
theorem jAf:prog.keyType 32=J:=by kernel_rfl
theorem j9z {c0 c1:Value}:(T #[c0,c1]).formed prog 32=J:=by simp[Value.formed,underlying32,j1g]
def I64 (x:Int):Prop:=-9223372036854775808<=x/\x<=9223372036854775807
theorem I64.wf {x:Int}(h:I64 x):(Lit.int .i64 x).wf=J:=by
 obtain⟨h1,h2⟩:=h;exact WalkArith.wf_i64 (by omega)
theorem jAe (c r:Int)(hc:I64 c)(hr:I64 r):∃l,keyOf prog 32 (T #[O I c,O I r])=H l:=by
 unfold keyOf;rw[underlying32];simp only[jAf,j9z,Bool.and_self,if_true];obtain⟨n,hn⟩:∃n,prog.types.size=n+1:=by
  have h:=j3l;generalize prog.types.size=s at h;cases s with
  | zero=>exact absurd h (Nat.not_lt_zero _)
  | succ n=>exact⟨n,rfl⟩
 rw[hn];simp[Program.keyLits,underlying32,underlying3,Value.cells,j4X,j1g,hc.wf,hr.wf]
end Go.Proofs.YtecjfnkakodebaaGreatDoor
