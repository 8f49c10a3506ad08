/-
  The law of deadlines.
-/
import Derived.Test.YtagfhlnedaagbaaWalkExpW
import Derived.Test.YtagfhlnedaagbaaWalkExpZ
import Derived.Test.YtagfhlnedaagbaaWalkExpY
import Derived.Test.YtagfhlnedaagbaaWalkExpX
namespace Go.Proofs.Ytagfhlnedaagbaa
open Go.RowKit
set_option linter.all false in
theorem walk_expires (A : Option Addr) (c : Nat) (cs : List CallA) (t : Int) (w : World) (hA : CallsAt w A cs) (hCl0 : cs.length ≤ 140737488355328) :
    Calls Try.prog 6 #[.slice A cs.length c, nV t] w fun e w' => e = .returned (.bool true) ∧ Below w.heap.size w w' :=
  part_WalkExp.imp ⟨part_WalkExp_W⟩ ⟨part_WalkExp_Z⟩ ⟨part_WalkExp_Y⟩ ⟨part_WalkExp_X⟩ A c cs t w hA hCl0
end Go.Proofs.Ytagfhlnedaagbaa
