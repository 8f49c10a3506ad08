/-
  The law of the plays.
-/
import Derived.Test.YtfinleobgmdebaaWalkPlaysA
import Derived.Test.YtfinleobgmdebaaWalkPlaysB
import Derived.Test.YtfinleobgmdebaaWalkPlaysC
import Derived.Test.YtfinleobgmdebaaWalkPlaysD
import Derived.Test.YtfinleobgmdebaaWalkPlaysE
namespace Go.Proofs.Ytfinleobgmdebaa
open Go.RowKit
set_option linter.all false in
theorem walk_plays (init most : Int) (A : Option Addr) (c : Nat) (cs : List CallA) (w : World) (hIn : -9223372036854775808 ≤ init ∧ init ≤ 9223372036854775807) (hMo : -9223372036854775808 ≤ most ∧ most ≤ 9223372036854775807) (hwf : ∀ y ∈ cs, WfCall y) (hA : CallsAt w A cs) (hCl0 : cs.length ≤ 140737488355328) :
    Calls Try.prog 3 #[nV init, nV most, .slice A cs.length c] w fun e w' => e = .returned (.bool true) ∧ Below w.heap.size w w' :=
  part_WalkPlays.imp ⟨part_WalkPlays_A⟩ ⟨part_WalkPlays_B⟩ ⟨part_WalkPlays_C⟩ ⟨part_WalkPlays_D⟩ ⟨part_WalkPlays_E⟩ init most A c cs w hIn hMo hwf hA hCl0
end Go.Proofs.Ytfinleobgmdebaa
