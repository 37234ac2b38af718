/- Packed, plain: numbers of k bytes; the sum of bytes. No function of the program here. -/
import Derived.Test.YtlppcfeakakpfaaGreatDoorQpGa
namespace Go.Proofs.YtlppcfeakakpfaaGreatDoor
def le:Nat→Nat→List UInt8
 | 0,_=>[]
 | k+1,n=>UInt8.ofNat n :: le k (n / 256)
end Go.Proofs.YtlppcfeakakpfaaGreatDoor
