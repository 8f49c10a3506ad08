/-
  Whether a deadline is reached; the closures of due and Expire.
-/
import Derived.Test.YtagfhlnedaagbaaListW
namespace Go.Proofs.Ytagfhlnedaagbaa
open Go.RowKit

def dueB (t : Int) (x : Int × Int × Int) : Bool := decide (x.2.1 ≠ -1) && decide (x.2.1 ≤ t)
theorem field1 (a b c : Int) (w : World) : (Instr.field 66 (.agg #[nV a, nV b, nV c]) 1).run Try.prog w = .ok (nV b) w := by kernel_rfl
theorem reached_any (x : Int × Int × Int) (t : Int) (w : World) : Calls Try.prog 41 #[wV x, nV t] w fun e w' => e = .returned (.bool (dueB t x)) ∧ Made w w' := by
  obtain ⟨a, d, c⟩ := x
  obtain ⟨q, hq⟩ : ∃ q, q = dueB t (a, d, c) := ⟨_, rfl⟩
  rw [← hq]
  have HQ := Lib.hid hq
  unfold dueB at HQ
  dsimp only at HQ
  clear hq
  unfold wV
  by_cases h1 : d = -1
  · subst h1
    have e : q = false := HQ.out.trans (by simp)
    subst e
    go_enter Try.func41, Try.ntmps41
    go_wp2_with fail
    go_ret
    exact ⟨rfl, (Made.refl w).alloc _⟩
  · by_cases h2 : d ≤ t
    · have e9 : (d != -1) = true := by simp [h1]
      have e : q = true := HQ.out.trans (by simp [h1, h2])
      subst e
      go_enter Try.func41, Try.ntmps41
      go_wp2_with fail
      go_ret
      exact ⟨rfl, (Made.refl w).alloc _⟩
    · have e : q = false := HQ.out.trans (by simp [h2])
      subst e
      go_enter Try.func41, Try.ntmps41
      go_wp2_with fail
      go_ret
      exact ⟨rfl, (Made.refl w).alloc _⟩
def tilC (lk : Int → Int × Int × Int) (x y : Int) : Int := cmpI (lk x).2.1 (lk y).2.1
theorem cmp_quiet (x y : Int) (w : World) (n : Nat) : Calls Try.prog 44 #[nV x, nV y] (w.drewN n) fun e w' => e = .returned (nV (cmpI x y)) ∧ w' = w.drewN n := (cmp_any x y _).mono fun _ _ h => ⟨h.1, h.2.symm⟩
set_option maxHeartbeats 1000000 in
theorem due1_any {g b p n : Nat} {hs : Int → Bool} {lk : Int → Int × Int × Int} (x y : Int) (hx : I64 x) (hy : I64 y) (w : World) (c0 : w.cell? ⟨g, 0, none⟩ = some (.map (some b))) (hm : MapAt w b hs lk n) (hp : w.cell? ⟨p, 0, none⟩ = some (.pointer (some ⟨g, 0, none⟩))) :
    Calls Try.prog 43 #[nV x, nV y, .pointer (some ⟨p, 0, none⟩)] w fun e w' => e = .returned (nV (tilC lk x y)) ∧ ∃ q, w' = w.drewN q := by
  have hgx := fun m => (hm.same (w' := w.drewN m) rfl).get hx
  have hgy := fun m => (hm.same (w' := w.drewN m) rfl).get hy
  obtain ⟨e, he⟩ : ∃ e, e = tilC lk x y := ⟨_, rfl⟩
  rw [← he]
  unfold tilC at he
  obtain ⟨a, ha⟩ : ∃ a, a = lk x := ⟨_, rfl⟩
  obtain ⟨d, hd⟩ : ∃ d, d = lk y := ⟨_, rfl⟩
  simp only [← ha] at hgx
  simp only [← hd] at hgy
  rw [← ha, ← hd] at he
  obtain ⟨a0, a1, a2⟩ := a
  obtain ⟨d0, d1, d2⟩ := d
  simp only [wV] at hgx hgy
  dsimp only at he
  have HE := Lib.hid he
  have fa := fun m => field1 a0 a1 a2 (w.drewN m)
  have fd := fun m => field1 d0 d1 d2 (w.drewN m)
  clear he ha hd hm
  go_enter Try.func43, Try.ntmps43
  go_wp2_with fail
  go_quiet (first | (with_reducible refine Calls.quiet_of_same (cmp_quiet _ _ _ _)))
  go_wp2_with fail
  go_ret
  exact ⟨by rw [HE.out]; rfl, _, rfl⟩
theorem waits_map {g b n : Nat} {hs : Int → Bool} {lk : Int → Int × Int × Int} (x : Int) (hx : I64 x) (w : World) (c0 : w.cell? ⟨g, 0, none⟩ = some (.map (some b))) (hm : MapAt w b hs lk n) :
    Calls Try.prog 28 #[.pointer (some ⟨g, 0, none⟩), nV x] w fun e w' => e = .returned (.bool (hs x)) ∧ Below w.heap.size w w' := by
  have hg := hm.get2 hx
  obtain ⟨a, hl⟩ : ∃ a, a = lk x := ⟨_, rfl⟩
  rw [← hl] at hg
  obtain ⟨a0, a1, a2⟩ := a
  obtain ⟨q, hq⟩ : ∃ q, q = hs x := ⟨_, rfl⟩
  rw [← hq] at hg ⊢
  clear hl hq hm
  simp only [wV] at hg
  go_enter Try.func28, Try.ntmps28
  go_wp2_with fail
  go_ret
  exact ⟨rfl, by repeat (first | exact Below.refl _ _ | refine Below.alloc ?_ (by simp) _ | refine Below.setCell ?_ _ _ (by simp))⟩
theorem exp1_any {g b p n : Nat} {hs : Int → Bool} {lk : Int → Int × Int × Int} (x : Int) (hx : I64 x) (w : World) (c0 : w.cell? ⟨g, 0, none⟩ = some (.map (some b))) (hm : MapAt w b hs lk n) (hp : w.cell? ⟨p, 0, none⟩ = some (.pointer (some ⟨g, 0, none⟩))) :
    Calls Try.prog 33 #[nV x, .pointer (some ⟨p, 0, none⟩)] w fun e w' => e = .returned (.bool (!hs x)) ∧ Below w.heap.size w w' := by
  have HW := Lib.hid (waits_map x hx w c0 hm)
  obtain ⟨q, hq⟩ : ∃ q, q = hs x := ⟨_, rfl⟩
  rw [← hq] at HW ⊢
  clear hm hq
  go_enter Try.func33, Try.ntmps33
  go_wp2_with fail
  refine HW.out.mono ?_
  rintro e w1 ⟨rfl, hB⟩
  have HB := Lib.hid hB
  clear hB
  go_wp2_with fail
  go_ret
  exact ⟨rfl, HB.out⟩
end Go.Proofs.Ytagfhlnedaagbaa
