/-
  SeqlockPlays answers true.
-/
import Derived.Test.YtoaaeamogpdcgaaDoorWalkPlaysF0
import Derived.Test.YtoaaeamogpdcgaaDoorWalkPlaysF1
import Derived.Test.YtoaaeamogpdcgaaDoorWalkPlaysF2
import Derived.Test.YtoaaeamogpdcgaaDoorWalkPlaysF3
import Derived.Test.YtoaaeamogpdcgaaDoorWalkPlaysG
import Derived.Test.YtoaaeamogpdcgaaDoorWalkPlaysA
import Derived.Test.YtoaaeamogpdcgaaDoorWalkPlaysB
import Derived.Test.YtoaaeamogpdcgaaDoorWalkPlaysC
import Derived.Test.YtoaaeamogpdcgaaDoorWalkPlaysD
import Derived.Test.YtoaaeamogpdcgaaDoorWalkPlaysS1
import Derived.Test.YtoaaeamogpdcgaaDoorWalkPlaysS2
namespace Go.Proofs.YtoaaeamogpdcgaaDoor
open Go.RowKit
set_option linter.all false in
theorem walk_plays (pa pn pc : Int) (A : Option Addr) (L ca : Nat) (F : Nat → Ver) (P : Option Addr) (np cp : Nat) (pk : Nat → Int) (w : World) (hG : GOk w) (ba : -9223372036854775808 ≤ pa ∧ pa < 9223372036854775808) (bn : -9223372036854775808 ≤ pn ∧ pn < 9223372036854775808) (hx : 0 ≤ pc ∧ pc < 4294967296) (hV : VersN w.heap.size w A L F) (hwf : ∀ i, i < L → Wf (F i).n (F i).v) (hL2 : L ≤ 1000000000000000) (hP : ArgN .u8 w.heap.size w P np pk) (hpk : ∀ i, i < np → 0 ≤ pk i ∧ pk i < 256) (hNp : np ≤ 1000000000000000) :
    Calls Tryd.prog 3 #[.agg #[.int .i64 pa, .int .i64 pn, .int .u32 pc], .slice A L ca, .slice P np cp] w fun e w' => e = .returned (.bool true) ∧ Below w.heap.size w w' :=
  part_WalkPlays.imp ⟨part_WalkPlays_F0⟩ ⟨part_WalkPlays_F1⟩ ⟨part_WalkPlays_F2⟩ ⟨part_WalkPlays_F3⟩ ⟨part_WalkPlays_G⟩ ⟨part_WalkPlays_A⟩ ⟨part_WalkPlays_B⟩ ⟨part_WalkPlays_C⟩ ⟨part_WalkPlays_D⟩ ⟨part_WalkPlays_S1⟩ ⟨part_WalkPlays_S2⟩ pa pn pc A L ca F P np cp pk w hG ba bn hx hV hwf hL2 hP hpk hNp
end Go.Proofs.YtoaaeamogpdcgaaDoor
