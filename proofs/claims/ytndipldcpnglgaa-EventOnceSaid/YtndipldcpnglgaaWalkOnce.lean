/-
  The law of once.
-/
import Derived.Test.YtndipldcpnglgaaWalkOnceA
import Derived.Test.YtndipldcpnglgaaWalkOnceB
import Derived.Test.YtndipldcpnglgaaWalkOnceC
import Derived.Test.YtndipldcpnglgaaWalkOnceD
import Derived.Test.YtndipldcpnglgaaWalkOnceE
import Derived.Test.YtndipldcpnglgaaWalkOnceF
namespace Go.Proofs.Ytndipldcpnglgaa
open Go.RowKit
set_option linter.all false in
theorem walk_once (A : Option Addr) (c : Nat) (cs : List CallA) (w : World) (hwf : ∀ y ∈ cs, WfCall y) (hA : CallsAt w A cs) (hCl0 : cs.length ≤ 140737488355328) :
    Calls Try.prog 6 #[.slice A cs.length c] w fun e w' => e = .returned (.bool true) ∧ Below w.heap.size w w' :=
  part_WalkOnce.imp ⟨part_WalkOnce_A⟩ ⟨part_WalkOnce_B⟩ ⟨part_WalkOnce_C⟩ ⟨part_WalkOnce_D⟩ ⟨part_WalkOnce_E⟩ ⟨part_WalkOnce_F⟩ A c cs w hwf hA hCl0
end Go.Proofs.Ytndipldcpnglgaa
