/-
  A machine in memory; a pick of a task, of whatever kind.
-/
import Derived.Test.YtcjhbmkpfclmfaaDoorStp
import Derived.Deep.RegionLaw
import Derived.Deep.RegionHeld3
namespace Go.Proofs.YtcjhbmkpfclmfaaDoor
open Go.RowKit

/-- A machine's own cells: its memory, its tasks (N values), who is done. -/
structure MachAt (w : World) (X g : Nat) (A : Option Addr) (TB N cap D : Nat) (p : Nat → Value) (d : Nat → Bool) : Prop where
  x0 : w.cell? ⟨X, 0, none⟩ = some (.pointer (some ⟨g, 0, none⟩))
  x1 : w.cell? ⟨X, 1, none⟩ = some (.slice A N cap)
  x2 : w.cell? ⟨X, 2, none⟩ = some (.slice (some ⟨D, 0, none⟩) N N)
  tk : ∀ i, i < N → A = some ⟨TB, 0, none⟩ ∧ w.cell? ⟨TB, i, none⟩ = some (p i)
  dn : w.rowIs D 4 N fun i => .bool (d i)
  xd : X ≠ D
  td : TB ≠ D
theorem MachAt.same {w w' : World} {X g : Nat} {A : Option Addr} {TB N cap D : Nat} {p : Nat → Value} {d : Nat → Bool} (h : MachAt w X g A TB N cap D p d) (e1 : w'.heap[X]? = w.heap[X]?) (e2 : w'.heap[TB]? = w.heap[TB]?) (e3 : w'.heap[D]? = w.heap[D]?) : MachAt w' X g A TB N cap D p d :=
  ⟨by rw [World.cell?_of_block (w := w) e1]; exact h.x0, by rw [World.cell?_of_block (w := w) e1]; exact h.x1, by rw [World.cell?_of_block (w := w) e1]; exact h.x2,
   fun i hi => ⟨(h.tk i hi).1, by rw [World.cell?_of_block (w := w) e2]; exact (h.tk i hi).2⟩, h.dn.of_block e3, h.xd, h.td⟩
theorem MachAt.set {w : World} {X g : Nat} {A : Option Addr} {TB N cap D : Nat} {p : Nat → Value} {d : Nat → Bool} (h : MachAt w X g A TB N cap D p d) (i : Nat) : MachAt (w.setCell ⟨D, i, none⟩ (.bool true)) X g A TB N cap D p (upd d i true) :=
  ⟨by rw [World.cell?_of_block (w := w) (Below.heap_setCell _ _ _ _ h.xd)]; exact h.x0, by rw [World.cell?_of_block (w := w) (Below.heap_setCell _ _ _ _ h.xd)]; exact h.x1, by rw [World.cell?_of_block (w := w) (Below.heap_setCell _ _ _ _ h.xd)]; exact h.x2,
   fun j hj => ⟨(h.tk j hj).1, by rw [World.cell?_of_block (w := w) (Below.heap_setCell _ _ _ _ h.td)]; exact (h.tk j hj).2⟩,
   (h.dn.set i _).congr fun j _ => by unfold upd; split <;> rfl, h.xd, h.td⟩
theorem MachAt.congr {w : World} {X g : Nat} {A : Option Addr} {TB N cap D : Nat} {p : Nat → Value} {d d' : Nat → Bool} (h : MachAt w X g A TB N cap D p d) (e : ∀ i, i < N → d i = d' i) : MachAt w X g A TB N cap D p d' :=
  ⟨h.x0, h.x1, h.x2, h.tk, h.dn.congr fun i hi => by rw [e i hi], h.xd, h.td⟩
theorem MachAt.drew {w : World} {X g : Nat} {A : Option Addr} {TB N cap D : Nat} {p : Nat → Value} {d : Nat → Bool} (h : MachAt w X g A TB N cap D p d) : MachAt w.drew X g A TB N cap D p d := ⟨h.x0, h.x1, h.x2, h.tk, h.dn, h.xd, h.td⟩

/-- A task's value: a pointer of a type. -/
def pv (T : TypeId) (a : Addr) : Value := .iface T (.pointer (some a))
theorem run_neq_nil (w : World) (T : TypeId) (v : Value) : (binOp .neq 80 (.iface T v) .nilIface).run Tryd.prog w = .ok (.bool true) w := by rfl

/-- What a pick leaves. -/
def PickP (Q : World → Prop) (D i : Nat) (r : Bool) (w' : World) : Prop := ∃ w1, Q w1 ∧ w' = if r then w1.setCell ⟨D, i, none⟩ (.bool true) else w1
section
variable {X g : Nat} {A : Option Addr} {TB N cap D : Nat} {p : Nat → Value} {d : Nat → Bool}
set_option maxHeartbeats 2000000 in
set_option maxRecDepth 100000 in
theorem has_no (i : Int) (w : World) (h : MachAt w X g A TB N cap D p d) (_ : N ≤ 1000) (hi : ¬ (0 ≤ i ∧ i < N)) :
    Calls Tryd.prog 28 #[.pointer (some ⟨X, 0, none⟩), .int .i64 i] w fun e w' => e = .returned (.bool false) ∧ w = w' := by
  have k1 := h.x1
  clear h
  by_cases h1 : 0 ≤ i
  · have h2 : (N : Int) ≤ i := by omega
    have h3 : ¬ i < N := by omega
    clear hi
    go_enter Tryd.func28, Tryd.ntmps28
    go_wp2_with fail
    go_ret
    exact ⟨rfl, rfl⟩
  · have h2 : i < 0 := by omega
    clear hi
    go_enter Tryd.func28, Tryd.ntmps28
    go_wp2_with fail
    go_ret
    exact ⟨rfl, rfl⟩
set_option maxHeartbeats 2000000 in
set_option maxRecDepth 100000 in
theorem has_yes (i : Nat) (T : TypeId) (a : Addr) (w : World) (h : MachAt w X g A TB N cap D p d) (_ : N ≤ 1000) (hi : i < N) (hp : p i = pv T a) :
    Calls Tryd.prog 28 #[.pointer (some ⟨X, 0, none⟩), .int .i64 i] w fun e w' => e = .returned (.bool true) ∧ w = w' := by
  have k1 := h.x1
  obtain ⟨hA, k2⟩ := h.tk i hi
  rw [hp] at k2
  simp only [pv] at k2
  subst hA
  have h1 : (0 : Int) ≤ (i : Int) := by omega
  have h2 : (i : Int) < (N : Int) := by omega
  have hq := run_neq_nil
  clear h hp
  go_enter Tryd.func28, Tryd.ntmps28
  go_wp2_with fail
  go_ret
  exact ⟨rfl, rfl⟩
set_option maxHeartbeats 2000000 in
set_option maxRecDepth 100000 in
theorem pick_none (i : Int) (w : World) (h : MachAt w X g A TB N cap D p d) (hN : N ≤ 1000) (hi : ¬ (0 ≤ i ∧ i < N)) :
    Calls Tryd.prog 19 #[.pointer (some ⟨X, 0, none⟩), .int .i64 i] w fun e w' => e = .returned (.int .i64 90) ∧ w = w' := by
  have HH := Lib.hid (has_no i w h hN hi)
  clear h hN hi
  go_enter Tryd.func19, Tryd.ntmps19
  go_wp2_with fail
  with_reducible refine HH.out.mono ?_
  rintro e w1 ⟨rfl, rfl⟩
  go_wp2_with fail
  go_ret
  exact ⟨rfl, rfl⟩
set_option maxHeartbeats 2000000 in
set_option maxRecDepth 100000 in
theorem pick_was (i : Nat) (T : TypeId) (a : Addr) (w : World) (h : MachAt w X g A TB N cap D p d) (hN : N ≤ 1000) (hi : i < N) (hp : p i = pv T a) (hd : d i = true) :
    Calls Tryd.prog 19 #[.pointer (some ⟨X, 0, none⟩), .int .i64 i] w fun e w' => e = .returned (.int .i64 91) ∧ w = w' := by
  have HH := Lib.hid (has_yes i T a w h hN hi hp)
  have k2 := h.x2
  have k3 := h.dn.cell hi
  rw [hd] at k3
  have h1 : (0 : Int) ≤ (i : Int) := by omega
  have h2 : (i : Int) < (N : Int) := by omega
  clear h hp hd
  go_enter Tryd.func19, Tryd.ntmps19
  go_wp2_with fail
  with_reducible refine HH.out.mono ?_
  rintro e w1 ⟨rfl, rfl⟩
  go_wp2_with fail
  go_ret
  exact ⟨rfl, rfl⟩
set_option maxHeartbeats 4000000 in
set_option maxRecDepth 100000 in
theorem pick_do (i : Nat) (T : TypeId) (K : FuncId) (a : Addr) (r : Bool) (Q : World → Prop) (w : World) (h : MachAt w X g A TB N cap D p d) (hN : N ≤ 1000) (hi : i < N) (hp : p i = pv T a) (hd : d i = false)
    (hm : ∀ w, (method 204 T (.pointer (some a)) "Step").run Tryd.prog w = .ok (K, .pointer (some a)) w) (hK : Enters K)
    (hQ : ∀ w', Q w' → MachAt w' X g A TB N cap D p d)
    (hcall : Calls Tryd.prog K #[.pointer (some a), .pointer (some ⟨g, 0, none⟩)] w.drew fun e w' => e = .returned (.bool r) ∧ Q w') :
    Calls Tryd.prog 19 #[.pointer (some ⟨X, 0, none⟩), .int .i64 i] w fun e w' => e = .returned (.int .i64 0) ∧ PickP Q D i r w' := by
  have HH := Lib.hid (has_yes i T a w h hN hi hp)
  have k0 := h.x0
  have k1 := h.x1
  have k2 := h.x2
  have k3 := h.dn.cell hi
  obtain ⟨hA, k4⟩ := h.tk i hi
  rw [hd] at k3
  rw [hp] at k4
  simp only [pv] at k4
  subst hA
  have h1 : (0 : Int) ≤ (i : Int) := by omega
  have h2 : (i : Int) < (N : Int) := by omega
  have HQ := Lib.hid hQ
  have HC := Lib.hid hcall
  have HP := Lib.hid hp
  have eg := hK
  unfold Enters at eg
  clear h hp hd hQ hcall hK
  go_enter Tryd.func19, Tryd.ntmps19
  go_wp2_with fail
  with_reducible refine HH.out.mono ?_
  rintro e w1 ⟨rfl, rfl⟩
  go_wp2_with fail
  go_region_held3 (fun w' => w'.cell? ⟨X, 1, none⟩ = some (.slice (some ⟨TB, 0, none⟩) N cap) ∧ w'.cell? ⟨X, 0, none⟩ = some (.pointer (some ⟨g, 0, none⟩)) ∧ w'.cell? ⟨TB, i, none⟩ = some (.iface T (.pointer (some a))))
    (go_keep)
    (first
      | (with_reducible refine HC.out.mono ?_
         rintro e w1 ⟨rfl, hq⟩
         have HM := Lib.hid (HQ.out _ hq)
         have HQ1 := Lib.hid hq
         have c0 := HM.out.x0
         have c1 := HM.out.x1
         have c2 := HM.out.x2
         have c3 := HM.out.dn.frozen i
         have c4 := (HM.out.tk i (by omega)).2
         have c5 := HM.out.dn.cell (i := i) (by omega)
         rw [HP.out] at c4
         simp only [pv] at c4
         clear hq))
  cases r
  · go_wp2_with fail
    go_ret
    exact ⟨rfl, w1, HQ1.out, rfl⟩
  · go_wp2_with fail
    go_ret
    exact ⟨rfl, w1, HQ1.out, rfl⟩
end
end Go.Proofs.YtcjhbmkpfclmfaaDoor
