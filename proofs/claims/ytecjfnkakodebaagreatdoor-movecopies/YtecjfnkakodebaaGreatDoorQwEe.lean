/-UTF-8 as the document reads it, over lists of bytes: the same as the m. -/
import Derived.Test.YtecjfnkakodebaaGreatDoorQwQa
import Derived.Lib.ValidLaws
namespace Go.Proofs.YtecjfnkakodebaaGreatDoor
open Go.RowKit Go.Lib
def acc (B:Nat->Nat) (c0:Int):Nat->Int
 | 0=>c0
 | j+1=>acc B c0 j*64+(B (j+1):Int)-128
end Go.Proofs.YtecjfnkakodebaaGreatDoor
namespace Go.Proofs.YtecjfnkakodebaaGreatDoor
open Go.RowKit Go.Lib
attribute [local irreducible] Nd.fe feL
end Go.Proofs.YtecjfnkakodebaaGreatDoor
namespace Go.Proofs.YtecjfnkakodebaaGreatDoor
open Go.RowKit Go.Lib
attribute [local irreducible] tsame lsame
end Go.Proofs.YtecjfnkakodebaaGreatDoor
namespace Go.Proofs.YtecjfnkakodebaaGreatDoor
open Go.RowKit Go.Lib
attribute [local irreducible] tsame lsame
def csame (a b:Ct):Bool:=a.k==b.k&&(if a.k=1 then vsame a.v b.v else if a.k=2 then tsame a.t b.t else true)
end Go.Proofs.YtecjfnkakodebaaGreatDoor
