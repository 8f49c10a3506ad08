/-
  The law of the plays.
-/
import Derived.Test.YtndipldcpnglgaaWalkPlaysA
import Derived.Test.YtndipldcpnglgaaWalkPlaysB
import Derived.Test.YtndipldcpnglgaaWalkPlaysC
import Derived.Test.YtndipldcpnglgaaWalkPlaysD
import Derived.Test.YtndipldcpnglgaaWalkPlaysE
import Derived.Test.YtndipldcpnglgaaWalkPlaysF
namespace Go.Proofs.Ytndipldcpnglgaa
open Go.RowKit
set_option linter.all false in
theorem walk_plays (up : Bool) (A : Option Addr) (c : Nat) (cs : List CallA) (w : World) (hwf : ∀ y ∈ cs, WfCall y) (hA : CallsAt w A cs) (hCl0 : cs.length ≤ 140737488355328) :
    Calls Try.prog 3 #[.bool up, .slice A cs.length c] w fun e w' => e = .returned (.bool true) ∧ Below w.heap.size w w' :=
  part_WalkPlays.imp ⟨part_WalkPlays_A⟩ ⟨part_WalkPlays_B⟩ ⟨part_WalkPlays_C⟩ ⟨part_WalkPlays_D⟩ ⟨part_WalkPlays_E⟩ ⟨part_WalkPlays_F⟩ up A c cs w hwf hA hCl0
end Go.Proofs.Ytndipldcpnglgaa
