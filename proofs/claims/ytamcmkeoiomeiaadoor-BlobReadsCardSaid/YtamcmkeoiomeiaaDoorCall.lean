/-
  What several laws ask: bytes made of a string, a failure told, a failed reader's answers; slices of asks.
-/
import Derived.Test.YtamcmkeoiomeiaaDoorAwake
namespace Go.Proofs.YtamcmkeoiomeiaaDoor
open Go.RowKit

/-- The world behind '[]byte(s)'. -/
def convW (w : World) (s : ByteArray) : World := w.drew.alloc (.cells (bytesRow s (grownCap w s.size 0 5)) 5 ((bytesRow s (grownCap w s.size 0 5)).size, (bytesRow s (grownCap w s.size 0 5)).size + 1))
theorem conv_run (s : ByteArray) (w : World) : (convert 9 23 (.string s)).run Tryd.prog w = .ok (.slice (some ⟨w.heap.size, 0, none⟩) s.size (grownCap w s.size 0 5)) (convW w s) :=
  run_bytes_of_string w 9 23 5 s Tryd.underlying9 Tryd.underlying23 Tryd.underlying5
theorem convW_below (w : World) (s : ByteArray) : Below w.heap.size w (convW w s) := ((Below.refl _ _).drew).alloc (Nat.le_refl _) _
theorem convW_size (w : World) (s : ByteArray) : (convW w s).heap.size = w.heap.size + 1 := by unfold convW; simp
theorem convW_at (w : World) (s : ByteArray) : At (convW w s) ⟨w.heap.size, 0, none⟩ s := fun i hi => by
  rw [add_lit, Nat.zero_add]
  have h := World.cell?_alloc_mark w.drew (bytesRow s (grownCap w s.size 0 5)) 5 ((bytesRow s (grownCap w s.size 0 5)).size, (bytesRow s (grownCap w s.size 0 5)).size + 1) i
  have hd : i < s.data.size := hi
  rw [bytesRow_at s _ i hd] at h
  exact h
theorem convW_frozen (w : World) (s : ByteArray) (i : Nat) (hi : i < s.size) : (convW w s).frozen? ⟨w.heap.size, i, none⟩ = false := by
  have h := World.frozen?_alloc_mark w.drew (bytesRow s (grownCap w s.size 0 5)) 5 (bytesRow s (grownCap w s.size 0 5)).size ((bytesRow s (grownCap w s.size 0 5)).size + 1) i
  have hs : s.size ≤ (bytesRow s (grownCap w s.size 0 5)).size := by
    have e : s.data.size = s.size := rfl
    unfold bytesRow
    rw [Array.size_append, Array.size_map]
    omega
  have hn : ¬ ((bytesRow s (grownCap w s.size 0 5)).size ≤ i) := by omega
  rw [decide_eq_false hn] at h
  exact h

section
variable {w : World} {g b cap k : Nat} {s : ByteArray} {bad : Bool}
theorem lacks_true (s : ByteArray) (k : Nat) (n : Int) : lacks s k true n = true := by simp [lacks]
theorem text_bad (h : Rd w g b cap s k true) (n : Int) :
    Calls Tryd.prog 18 #[.pointer (some ⟨g, 0, none⟩), .int .i64 n] w fun e w' => e = .returned (.string ⟨#[]⟩) ∧ Rd w' g b cap s k true ∧ w.grownBy w' (some g) := by
  have h := text_any h n
  have e1 : readS s k true n = ⟨#[]⟩ := by simp [readS, lacks_true]
  have e2 : nextAt s k true n = k := by simp [nextAt, lacks_true]
  rw [e1, e2, lacks_true] at h
  exact h
set_option maxHeartbeats 400000 in
theorem list_bad (h : Rd w g b cap s k true) (n : Int) :
    Calls Tryd.prog 23 #[.pointer (some ⟨g, 0, none⟩), .int .i64 n] w fun e w' => e = .returned (.slice none 0 0) ∧ Rd w' g b cap s k true ∧ w.grownBy w' (some g) := by
  have H := Lib.hid h
  clear h
  go_enter Tryd.func23, Tryd.ntmps23
  go_wp2_with (go_at_call 32; refine (needs_lack H.out _ (lacks_true _ _ _)).mono ?_; rintro e w1 ⟨rfl, hR, hO⟩; have HR := Lib.hid hR; have HO := Lib.hid hO; clear hR hO)
  go_ret
  exact ⟨rfl, HR.out, HO.out⟩
/-- Err of a reader that has failed: a failure in memory of the call's own. -/
theorem err_told (h : Rd w g b cap s k true) :
    Calls Tryd.prog 13 #[.pointer (some ⟨g, 0, none⟩)] w fun e w' => ∃ f, e = .returned (.iface 56 (.pointer (some ⟨f, 0, none⟩))) ∧ w'.cell? ⟨f, 0, none⟩ = some (.int .i64 k) ∧ w'.cell? ⟨f, 0 + 1, none⟩ = some (.int .i64 20) ∧ Below w.heap.size w w' :=
  (err_bad h).mono fun _ _ ⟨he, hw⟩ => ⟨_, he, by rw [hw]; exact World.cell?_alloc_at _ _ _ _ rfl, by rw [hw]; exact World.cell?_alloc_at _ _ _ _ rfl, by rw [hw]; exact (Below.refl _ _).alloc (Nat.le_refl _) _⟩
theorem end_told_bad (h : Rd w g b cap s k true) :
    Calls Tryd.prog 15 #[.pointer (some ⟨g, 0, none⟩)] w fun e w' => ∃ f, e = .returned (.iface 56 (.pointer (some ⟨f, 0, none⟩))) ∧ w'.cell? ⟨f, 0, none⟩ = some (.int .i64 k) ∧ w'.cell? ⟨f, 0 + 1, none⟩ = some (.int .i64 20) ∧ Below w.heap.size w w' :=
  (end_bad h).mono fun _ _ ⟨he, hw⟩ => ⟨_, he, by rw [hw]; exact World.cell?_alloc_at _ _ _ _ rfl, by rw [hw]; exact World.cell?_alloc_at _ _ _ _ rfl, by rw [hw]; exact (Below.refl _ _).alloc (Nat.le_refl _) _⟩
theorem end_told_more (h : Rd w g b cap s k false) (hk : k < s.size) :
    Calls Tryd.prog 15 #[.pointer (some ⟨g, 0, none⟩)] w fun e w' => ∃ f, e = .returned (.iface 56 (.pointer (some ⟨f, 0, none⟩))) ∧ w'.cell? ⟨f, 0, none⟩ = some (.int .i64 k) ∧ w'.cell? ⟨f, 0 + 1, none⟩ = some (.int .i64 21) ∧ Below w.heap.size w w' :=
  (end_more h hk).mono fun _ _ ⟨n, he, hw⟩ => ⟨_, he, by rw [hw]; exact World.cell?_alloc_at _ _ _ _ rfl, by rw [hw]; exact World.cell?_alloc_at _ _ _ _ rfl, by rw [hw]; exact (below_drewN (Below.refl _ _) n).alloc (Nat.le_refl _) _⟩
theorem end_told_ok (h : Rd w g b cap s k false) (hk : ¬ k < s.size) :
    Calls Tryd.prog 15 #[.pointer (some ⟨g, 0, none⟩)] w fun e w' => e = .returned .nilIface ∧ Below w.heap.size w w' :=
  (end_ok h hk).mono fun _ _ ⟨n, he, hw⟩ => ⟨he, by rw [hw]; exact below_drewN (Below.refl _ _) n⟩
/-- blob.Is over a failure as it is. -/
theorem bis_short (f : Nat) (w : World) (h1 : w.cell? ⟨f, 0 + 1, none⟩ = some (.int .i64 20)) :
    Calls Tryd.prog 24 #[.iface 56 (.pointer (some ⟨f, 0, none⟩)), .int .i64 20] w fun e w' => e = .returned (.bool true) ∧ Below w.heap.size w w' := bis_fail 0 f 0 20 20 w h1
theorem bis_more (f : Nat) (w : World) (h1 : w.cell? ⟨f, 0 + 1, none⟩ = some (.int .i64 20)) :
    Calls Tryd.prog 24 #[.iface 56 (.pointer (some ⟨f, 0, none⟩)), .int .i64 21] w fun e w' => e = .returned (.bool false) ∧ Below w.heap.size w w' := bis_fail 0 f 0 20 21 w h1
end

/-- A slice of n asks, of which number i has the kind and the number of f i. -/
def Asks (w : World) (A : Option Addr) (n : Nat) (f : Nat → Int × Int) : Prop :=
  ∀ i, i < n → ∃ b o, A = some ⟨b, o, none⟩ ∧ w.cell? ⟨b, o + i * 2, none⟩ = some (.int .i64 (f i).1) ∧ w.cell? ⟨b, o + i * 2 + 1, none⟩ = some (.int .i64 (f i).2)
theorem Asks.num {w : World} {b o n : Nat} {f : Nat → Int × Int} (h : Asks w (some ⟨b, o, none⟩) n f) {i : Nat} (hi : i < n) : w.cell? ⟨b, o + i * 2 + 1, none⟩ = some (.int .i64 (f i).2) := by
  obtain ⟨b', o', e, _, h2⟩ := h i hi
  injection e with e
  injection e with e1 e2
  rw [e1, e2]
  exact h2
theorem Asks.kind {w : World} {b o n : Nat} {f : Nat → Int × Int} (h : Asks w (some ⟨b, o, none⟩) n f) {i : Nat} (hi : i < n) : w.cell? ⟨b, o + i * 2, none⟩ = some (.int .i64 (f i).1) := by
  obtain ⟨b', o', e, h2, _⟩ := h i hi
  injection e with e
  injection e with e1 e2
  rw [e1, e2]
  exact h2
theorem Asks.keep {w w' : World} {A : Option Addr} {n : Nat} {f : Nat → Int × Int} (h : Asks w A n f) (hb : Below w.heap.size w w') : Asks w' A n f := fun i hi => by
  obtain ⟨b, o, e, h1, h2⟩ := h i hi
  exact ⟨b, o, e, by rw [hb.cell (cell_lt' h1)]; exact h1, by rw [hb.cell (cell_lt' h2)]; exact h2⟩
end Go.Proofs.YtamcmkeoiomeiaaDoor
