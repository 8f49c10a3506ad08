/-
  The law of the plays.
-/
import Derived.Test.YtagfhlnedaagbaaWalkPlaysR
namespace Go.Proofs.Ytagfhlnedaagbaa
open Go.RowKit
set_option linter.all false in
theorem walk_plays (A : Option Addr) (c : Nat) (cs : List CallA) (w : World) (hwf : ∀ y ∈ cs, WfCall y) (hA : CallsAt w A cs) (hCl0 : cs.length ≤ 140737488355328) :
    Calls Try.prog 3 #[.slice A cs.length c] w fun e w' => e = .returned (.bool true) ∧ Below w.heap.size w w' :=
  part_WalkPlays.imp ⟨part_WalkPlays_R⟩ A c cs w hwf hA hCl0
end Go.Proofs.Ytagfhlnedaagbaa
