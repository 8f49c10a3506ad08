/-
  Drop, Take.
-/
import Derived.Test.YtagfhlnedaagbaaRemW
namespace Go.Proofs.Ytagfhlnedaagbaa
open Go.RowKit

def DropP (g b : Nat) (v : Value) (S : Ln) (id : Int) (w : World) (e : Ending) (w' : World) : Prop := e = .returned (.int .i64 (S.dropE id)) ∧ LnP g b v (S.drop id) w w'
theorem toId_has {S : Ln} {id : Int} (h : S.has id = true) : ∃ a ∈ S.q, (a.id.val : Int) = id ∧ toId id = a.id := by
  obtain ⟨a, ha, e⟩ := has_iff.1 h
  exact ⟨a, ha, e, by rw [← e]; exact toId_of _⟩
theorem drop_any {g b : Nat} {v : Value} {S : Ln} (id : Int) (hid : I64 id) (w : World) (h : LnAt w g b v S) (hn : S.q.length ≤ 100000) :
    Calls Try.prog 18 #[.pointer (some ⟨g, 0, none⟩), nV id] w fun e w' => DropP g b v S id w e w' := by
  have HW := Lib.hid (waits_any id hid w h)
  have H := Lib.hid h
  cases hh : S.has id with
  | false =>
    rw [hh] at HW
    have HF : ∀ w', Below w.heap.size w w' → Hid (DropP g b v S id w (.returned (.int .i64 142)) w') := fun w' hB => ⟨by unfold Ln.dropE; rw [hh]; rfl, by unfold Ln.drop; rw [hh]; exact LnP.below H.out hB⟩
    have HFF := Lib.hid HF
    clear h HF hh
    go_enter Try.func18, Try.ntmps18
    go_wp2_with fail
    refine HW.out.mono ?_
    rintro e w1 ⟨rfl, hB, _⟩
    have HF := HFF.out w1 hB
    clear hB
    go_wp2_with fail
    go_ret
    exact HF.out
  | true =>
    rw [hh] at HW
    obtain ⟨a, ha, ea, et⟩ := toId_has hh
    have HF : ∀ w' w1, Below w.heap.size w w1 → LnP g b v (S.without a.id) w1 w' → Hid (DropP g b v S id w (.returned (.int .i64 0)) w') := fun w' w1 hB hP => ⟨by unfold Ln.dropE; rw [hh]; rfl, by unfold Ln.drop; rw [hh, if_pos rfl, et]; exact LnP.trans (Chg.of_below hB) (.inl rfl) hP⟩
    have HFF := Lib.hid HF
    have HR := Lib.hid fun w1 (hB : Below w.heap.size w w1) => remove_any w1 (H.out.keep hB) ha hn
    have EA := Lib.hid ea
    clear h HF hh et ea
    go_enter Try.func18, Try.ntmps18
    go_wp2_with fail
    refine HW.out.mono ?_
    rintro e w1 ⟨rfl, hB, _⟩
    have hr := HR.out w1 hB
    rw [EA.out] at hr
    have HR1 := Lib.hid hr
    have HB := Lib.hid hB
    clear hB hr
    go_wp2_with fail
    refine HR1.out.mono ?_
    rintro e w2 ⟨rfl, hP⟩
    have HF := HFF.out w2 w1 HB.out hP
    clear hP
    go_wp2_with fail
    go_ret
    exact HF.out
def TakeP (g b : Nat) (v : Value) (S : Ln) (w : World) (e : Ending) (w' : World) : Prop := e = .returned (.tuple #[nV S.first, .bool S.any]) ∧ LnP g b v S.take w w'
theorem take_any {g b : Nat} {v : Value} {S : Ln} (w : World) (h : LnAt w g b v S) (hn : S.q.length ≤ 100000) :
    Calls Try.prog 17 #[.pointer (some ⟨g, 0, none⟩)] w fun e w' => TakeP g b v S w e w' := by
  have HW := Lib.hid (first_any w h)
  have H := Lib.hid h
  cases hq : S.q with
  | nil =>
    have e1 : S.first = 0 := by unfold Ln.first; rw [hq]
    have e2 : S.any = false := by unfold Ln.any; rw [hq]; rfl
    have HF : Hid (TakeP g b v S w (.returned (.tuple #[nV 0, .bool false])) w) := ⟨by rw [e1, e2], by unfold Ln.take; rw [hq]; exact LnP.refl H.out⟩
    rw [e1, e2] at HW
    clear h e1 e2 hq
    go_enter Try.func17, Try.ntmps17
    go_wp2_with fail
    refine HW.out.mono ?_
    rintro e w1 ⟨rfl, rfl⟩
    go_wp2_with fail
    go_ret2
    exact HF.out
  | cons a r =>
    have e1 : S.first = (a.id.val : Int) := by unfold Ln.first; rw [hq]
    have e2 : S.any = true := by unfold Ln.any; rw [hq]; rfl
    have ha : a ∈ S.q := by rw [hq]; exact List.mem_cons_self
    have HF : ∀ w', LnP g b v (S.without a.id) w w' → Hid (TakeP g b v S w (.returned (.tuple #[nV (a.id.val : Int), .bool true])) w') := fun w' hP => ⟨by rw [e1, e2], by unfold Ln.take; rw [hq]; exact hP⟩
    have HFF := Lib.hid HF
    rw [e1, e2] at HW
    have HR := Lib.hid (remove_any w h ha hn)
    obtain ⟨x, hx⟩ : ∃ x, x = (a.id.val : Int) := ⟨_, rfl⟩
    rw [← hx] at HW HFF HR
    clear h HF hq e1 e2 hx
    go_enter Try.func17, Try.ntmps17
    go_wp2_with fail
    refine HW.out.mono ?_
    rintro e w1 ⟨rfl, rfl⟩
    go_wp2_with fail
    refine HR.out.mono ?_
    rintro e w2 ⟨rfl, hP⟩
    have HF := HFF.out w2 hP
    clear hP
    go_wp2_with fail
    go_ret2
    exact HF.out
end Go.Proofs.Ytagfhlnedaagbaa
