/-
  Drop, Take.
-/
import Derived.Test.YtndipldcpnglgaaRemW
namespace Go.Proofs.Ytndipldcpnglgaa
open Go.RowKit

def DropP (g b : Nat) (v : Value) (S : Ln) (id : Int) (w : World) (e : Ending) (w' : World) : Prop := e = .returned (.int .i64 (S.dropE id)) ∧ LnP g b v (S.drop id) w w'
theorem toId_has {S : Ln} {id : Int} (h : S.has id = true) : ∃ a ∈ S.q, (a.id.val : Int) = id ∧ toId id = a.id := by
  obtain ⟨a, ha, e⟩ := has_iff.1 h
  exact ⟨a, ha, e, by rw [← e]; exact toId_of _⟩
theorem drop_any {g b : Nat} {v : Value} {S : Ln} (id : Int) (hid : I64 id) (w : World) (h : LnAt w g b v S) (hn : S.q.length ≤ 100000) :
    Calls Try.prog 43 #[.pointer (some ⟨g, 0, none⟩), nV id] w fun e w' => DropP g b v S id w e w' := by
  have HW := Lib.hid (waits_any id hid w h)
  have H := Lib.hid h
  cases hh : S.has id with
  | false =>
    rw [hh] at HW
    have HF : ∀ w', Below w.heap.size w w' → Hid (DropP g b v S id w (.returned (.int .i64 142)) w') := fun w' hB => ⟨by unfold Ln.dropE; rw [hh]; rfl, by unfold Ln.drop; rw [hh]; exact LnP.below H.out hB⟩
    have HFF := Lib.hid HF
    clear h HF hh
    go_enter Try.func43, Try.ntmps43
    go_wp2_with fail
    refine HW.out.mono ?_
    rintro e w1 ⟨rfl, hB, _⟩
    have HF := HFF.out w1 hB
    clear hB
    go_wp2_with fail
    go_ret
    exact HF.out
  | true =>
    rw [hh] at HW
    obtain ⟨a, ha, ea, et⟩ := toId_has hh
    have HF : ∀ w' w1, Below w.heap.size w w1 → LnP g b v (S.without a.id) w1 w' → Hid (DropP g b v S id w (.returned (.int .i64 0)) w') := fun w' w1 hB hP => ⟨by unfold Ln.dropE; rw [hh]; rfl, by unfold Ln.drop; rw [hh, if_pos rfl, et]; exact LnP.trans (Chg.of_below hB) (.inl rfl) hP⟩
    have HFF := Lib.hid HF
    have HR := Lib.hid fun w1 (hB : Below w.heap.size w w1) => remove_any w1 (H.out.keep hB) ha hn
    have EA := Lib.hid ea
    clear h HF hh et ea
    go_enter Try.func43, Try.ntmps43
    go_wp2_with fail
    refine HW.out.mono ?_
    rintro e w1 ⟨rfl, hB, _⟩
    have hr := HR.out w1 hB
    rw [EA.out] at hr
    have HR1 := Lib.hid hr
    have HB := Lib.hid hB
    clear hB hr
    go_wp2_with fail
    refine HR1.out.mono ?_
    rintro e w2 ⟨rfl, hP⟩
    have HF := HFF.out w2 w1 HB.out hP
    clear hP
    go_wp2_with fail
    go_ret
    exact HF.out
end Go.Proofs.Ytndipldcpnglgaa
