/-
  Pieces of the walk of the given Check.
-/
import Derived.Test.YtmfelkdcoihkpaaDoorCbM1
import Derived.Test.YtmfelkdcoihkpaaDoorCbM3
import Derived.Test.YtmfelkdcoihkpaaDoorCbM4
import Derived.Test.YtmfelkdcoihkpaaDoorCbM5
namespace Go.Proofs.YtmfelkdcoihkpaaDoor
open Go.RowKit
set_option linter.all false in
theorem refCheck_any (P : PlanA) (L : PlanL) (w : World) (hP : PlanAt w P L) (hO : POk P L) :
    Calls Tryd.prog 13 #[planV P L] w fun e w' => e = .returned (.tuple #[.int .i64 (checkS P).1, .int .i64 (checkS P).2]) ∧ Below w.heap.size w w' :=
  part_Cb.imp ⟨part_Cb_L1⟩ ⟨part_Cb_L2⟩ ⟨part_Cb_L3A⟩ ⟨part_Cb_L3B⟩ ⟨part_Cb_L3C⟩ ⟨part_Cb_L3D⟩ ⟨part_Cb_L3E⟩ ⟨part_Cb_L3F⟩ ⟨part_Cb_L3G⟩ ⟨part_Cb_L3H⟩ ⟨part_Cb_L4⟩ ⟨part_Cb_L5⟩ ⟨part_Cb_L6⟩ P L w hP hO
end Go.Proofs.YtmfelkdcoihkpaaDoor
