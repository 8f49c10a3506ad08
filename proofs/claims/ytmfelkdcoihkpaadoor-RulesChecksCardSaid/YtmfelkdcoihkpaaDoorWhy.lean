/-
  blob.Why over nil, over a failure or a number that is wrapped any number of times, and over a wrap of nil.
-/
import Derived.Test.YtmfelkdcoihkpaaDoorIs
import Derived.RegionTactic
import Derived.BigQuiet
import Derived.Deep.QuietTactic
namespace Go.Proofs.YtmfelkdcoihkpaaDoor
open Go.RowKit Go.Extern.Stop Go.Stop Go.Extern

set_option maxHeartbeats 1000000 in
theorem find28_of (E r : Value) (b : Bool) (w : World)
    (hA : ∀ W T, Below w.heap.size w W → w.heap.size ≤ T → W.cell? ⟨T, 0, none⟩ = some (.pointer none) → W.frozen? ⟨T, 0, none⟩ = false →
      Calls Tryd.prog 30 #[E, .iface 77 (.pointer (some ⟨T, 0, none⟩))] W fun e w' => e = .returned (.bool b) ∧ w'.cell? ⟨T, 0, none⟩ = some r ∧ Below T W w') :
    Calls Tryd.prog 20 #[E] w fun e w' => e = .returned (.tuple #[r, .bool b]) ∧ Below w.heap.size w w' := by
  have hmf : ∀ (fn : Fn) (first cap : Array Value) (w : World), (Instr.makeFunc fn first cap).run Tryd.prog w = .ok (.func fn first cap) w := fun _ _ _ _ => rfl
  have hAw := Lib.hid (hA (w.alloc (.cells #[.pointer none] 57)) w.heap.size ((Below.refl _ _).alloc (Nat.le_refl _) _) (Nat.le_refl _) (by simp) (by simp))
  clear hA
  go_enter_defers Tryd.func20, Tryd.ntmps20
  go_wp2_with (go_at_call 30; refine hAw.out.mono ?_; rintro e w1 ⟨rfl, hc, hR⟩; have HR := Lib.hid hR; clear hR)
  refine leaves_cons (f := 29) (args := #[]) (by simp) (by simp [go_sem]) ?_
  refine (recover38 _).mono ?_
  rintro e u' w'' ⟨rfl, rfl, rfl⟩
  exact ⟨_, results_tmp2 rfl _ _ _, rfl, ((Below.refl _ _).alloc (Nat.le_refl _) _).trans HR.out⟩

set_option maxHeartbeats 1000000 in
theorem find29_of (E : Value) (x : Int) (b : Bool) (w : World)
    (hA : ∀ W T, Below w.heap.size w W → w.heap.size ≤ T → W.cell? ⟨T, 0, none⟩ = some (.int .i64 0) → W.frozen? ⟨T, 0, none⟩ = false →
      Calls Tryd.prog 30 #[E, .iface 78 (.pointer (some ⟨T, 0, none⟩))] W fun e w' => e = .returned (.bool b) ∧ w'.cell? ⟨T, 0, none⟩ = some (.int .i64 x) ∧ Below T W w') :
    Calls Tryd.prog 21 #[E] w fun e w' => e = .returned (.tuple #[.int .i64 x, .bool b]) ∧ Below w.heap.size w w' := by
  have hmf : ∀ (fn : Fn) (first cap : Array Value) (w : World), (Instr.makeFunc fn first cap).run Tryd.prog w = .ok (.func fn first cap) w := fun _ _ _ _ => rfl
  have hAw := Lib.hid (hA (w.alloc (.cells #[.int .i64 0] 31)) w.heap.size ((Below.refl _ _).alloc (Nat.le_refl _) _) (Nat.le_refl _) (by simp) (by simp))
  clear hA
  go_enter_defers Tryd.func21, Tryd.ntmps21
  go_wp2_with (go_at_call 30; refine hAw.out.mono ?_; rintro e w1 ⟨rfl, hc, hR⟩; have HR := Lib.hid hR; clear hR)
  refine leaves_cons (f := 31) (args := #[]) (by simp) (by simp [go_sem]) ?_
  refine (recover40 _).mono ?_
  rintro e u' w'' ⟨rfl, rfl, rfl⟩
  exact ⟨_, results_tmp2 rfl _ _ _, rfl, ((Below.refl _ _).alloc (Nat.le_refl _) _).trans HR.out⟩

/-! ### the cases -/
theorem find28_nil (w : World) : Calls Tryd.prog 20 #[.nilIface] w fun e w' => e = .returned (.tuple #[.pointer none, .bool false]) ∧ Below w.heap.size w w' :=
  find28_of _ _ _ w fun W _ _ _ hc _ => (as39_nil _ W).mono fun _ _ ⟨he, hw⟩ => ⟨he, hw ▸ hc, hw ▸ Below.refl _ _⟩
theorem find29_nil (w : World) : Calls Tryd.prog 21 #[.nilIface] w fun e w' => e = .returned (.tuple #[.int .i64 0, .bool false]) ∧ Below w.heap.size w w' :=
  find29_of _ _ _ w fun W _ _ _ hc _ => (as39_nil _ W).mono fun _ _ ⟨he, hw⟩ => ⟨he, hw ▸ hc, hw ▸ Below.refl _ _⟩

theorem find28_fail (k : Nat) (p : Addr) (w : World) (hG : GOk w) :
    Calls Tryd.prog 20 #[errV (.iface 57 (.pointer (some p))) k] w fun e w' => e = .returned (.tuple #[.pointer (some p), .bool true]) ∧ Below w.heap.size w w' := by
  refine find28_of _ _ _ w fun W T hB hT hc hf => ?_
  obtain ⟨t, v, hev⟩ := errV_iface56 p k
  have h0 := hG.lt
  have hTl : T < W.heap.size := cell_lt hc
  have H := as39_80 t v ⟨T, 0, none⟩ W (hG.below hB h0) true (fun w' => w'.cell? ⟨T, 0, none⟩ = some (.pointer (some p)) ∧ Below T W w') fun vb w1 hB1 hvb => by
    rw [← hev]
    refine (as47_hit56 k p vb T _ (.pointer none) w1 hvb (by rw [hB1.cell (p := ⟨T, 0, none⟩) hTl]; exact hc) (by rw [hB1.frozen (p := ⟨T, 0, none⟩) hTl]; exact hf)).mono ?_
    rintro e w2 ⟨he, hc2, hB2⟩
    exact ⟨he, hc2, (hB1.mono (by omega)).trans hB2⟩
  rw [← hev] at H
  exact H

/-! ### Why -/
set_option maxHeartbeats 1000000 in
theorem why_none (E : Value) (w : World)
    (h28 : Calls Tryd.prog 20 #[E] w fun e w' => e = .returned (.tuple #[.pointer none, .bool false]) ∧ Below w.heap.size w w')
    (x : Int) (b : Bool) (hx : b = false → x = 0) (h29 : ∀ w1, Below w.heap.size w w1 → Calls Tryd.prog 21 #[E] w1 fun e w' => e = .returned (.tuple #[.int .i64 x, .bool b]) ∧ Below w1.heap.size w1 w') :
    Calls Tryd.prog 11 #[E] w fun e w' => e = .returned (.tuple #[.int .i64 x, .int .i64 0]) ∧ Below w.heap.size w w' := by
  have H28 := Lib.hid h28
  have H29 := Lib.hid h29
  have HX := Lib.hid hx
  clear h28 h29 hx
  cases b
  · have hx0 : x = 0 := HX.out rfl
    subst hx0
    go_enter Tryd.func11, Tryd.ntmps11
    go_wp2_with (go_at_call 20; refine H28.out.mono ?_; rintro e w1 ⟨rfl, hR⟩; have HR := Lib.hid hR; clear hR)
    refine (H29.out _ HR.out).mono ?_
    rintro e w2 ⟨rfl, hR⟩
    have HR2 := Lib.hid hR
    clear hR
    go_wp2
    go_ret2
    exact ⟨rfl, HR.out.trans (HR2.out.mono HR.out.size)⟩
  · go_enter Tryd.func11, Tryd.ntmps11
    go_wp2_with (go_at_call 20; refine H28.out.mono ?_; rintro e w1 ⟨rfl, hR⟩; have HR := Lib.hid hR; clear hR)
    refine (H29.out _ HR.out).mono ?_
    rintro e w2 ⟨rfl, hR⟩
    have HR2 := Lib.hid hR
    clear hR
    go_wp2
    go_ret2
    exact ⟨rfl, HR.out.trans (HR2.out.mono HR.out.size)⟩

/-- Why over a failure, wrapped k times. -/
theorem why_fail (k b o : Nat) (x y : Int) (w : World) (hG : GOk w) (h0 : w.cell? ⟨b, o, none⟩ = some (.int .i64 y)) (h1 : w.cell? ⟨b, o + 1, none⟩ = some (.int .i64 x)) :
    Calls Tryd.prog 11 #[errV (.iface 57 (.pointer (some ⟨b, o, none⟩))) k] w fun e w' => e = .returned (.tuple #[.int .i64 x, .int .i64 y]) ∧ Below w.heap.size w w' := by
  have H28 := Lib.hid (find28_fail k ⟨b, o, none⟩ w hG)
  have hlt := cell_lt h0
  have HA := Lib.hid h0
  have HB := Lib.hid h1
  clear h0 h1 hG
  go_enter Tryd.func11, Tryd.ntmps11
  go_wp2_with (go_at_call 20; refine H28.out.mono ?_; rintro e w1 ⟨rfl, hR⟩; have HR := Lib.hid hR; clear hR; have c0 : w1.cell? ⟨b, o, none⟩ = some (.int .i64 y) := (HR.out.cell hlt).trans HA.out; have c1 : w1.cell? ⟨b, o + 1, none⟩ = some (.int .i64 x) := (HR.out.cell hlt).trans HB.out)
  go_quiet (fail)
  go_wp2
  go_ret2
  exact ⟨rfl, below_drewN HR.out _⟩

theorem why_nil (w : World) : Calls Tryd.prog 11 #[.nilIface] w fun e w' => e = .returned (.tuple #[.int .i64 0, .int .i64 0]) ∧ Below w.heap.size w w' :=
  why_none _ w (find28_nil w) 0 false (fun _ => rfl) fun w1 _ => find29_nil w1
/-- Why over a failure as it is. -/
theorem why_fail0 (b o : Nat) (x y : Int) (w : World) (hG : GOk w) (h0 : w.cell? ⟨b, o, none⟩ = some (.int .i64 y)) (h1 : w.cell? ⟨b, o + 1, none⟩ = some (.int .i64 x)) :
    Calls Tryd.prog 11 #[.iface 57 (.pointer (some ⟨b, o, none⟩))] w fun e w' => e = .returned (.tuple #[.int .i64 x, .int .i64 y]) ∧ Below w.heap.size w w' :=
  why_fail 0 b o x y w hG h0 h1
end Go.Proofs.YtmfelkdcoihkpaaDoor
