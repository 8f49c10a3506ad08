/-
  A step of a taker; a new one; what it tells.
-/
import Derived.Test.YtdegfadahlcgnaaDoorTak
namespace Go.Proofs.YtdegfadahlcgnaaDoor
open Go.RowKit

theorem TakerPre.as {w : World} {B : Nat} {p0 : Int} {t t' : Tk} (h : TakerPre w B p0 t) (e0 : t'.at' = t.at') (e1 : t'.cl = t.cl) (e2 : t'.left = t.left) (e4 : t'.tk = t.tk) (e5 : t'.ld = t.ld) : TakerPre w B p0 t' :=
  ⟨by rw [e0]; exact h.c0, by rw [e1]; exact h.c1, by rw [e2]; exact h.c2, h.c3, by rw [e4]; exact h.c4, by rw [e5]; exact h.c5, h.fz, by rw [e2]; exact h.ub, by rw [e0]; exact h.ar⟩
theorem keptd {w w' : World} {a : Addr} {v : Value} (hc : w.cell? a = some v) (h : Below w.heap.size w.drew w') : w'.cell? a = some v := kept (w := w.drew) hc h
/-- The list of the five steps. -/
def five : Value := .agg #[.func (.func 38) #[] #[], .func (.func 39) #[] #[], .func (.func 40) #[] #[], .func (.func 41) #[] #[], .func (.func 42) #[] #[]]
set_option maxHeartbeats 2000000 in
set_option maxRecDepth 100000 in
theorem actions_any (w : World) : Calls Tryd.prog 37 #[] w fun e w' => e = .returned five ∧ Below w.heap.size w w' := by
  go_enter Tryd.func37, Tryd.ntmps37
  go_wp2_with fail
  exact bodyPost_ret (v := five) (by simp [results, Tryd.results37, go_sem, five]) rfl ⟨rfl, (Below.refl _ _).alloc (Nat.le_refl _) _⟩
theorem index0 (w : World) : (Instr.index 87 five (.int .i64 0)).run Tryd.prog w = .ok (.func (.func 38) #[] #[]) w := by kernel_rfl
theorem index1 (w : World) : (Instr.index 87 five (.int .i64 1)).run Tryd.prog w = .ok (.func (.func 39) #[] #[]) w := by kernel_rfl
theorem index2 (w : World) : (Instr.index 87 five (.int .i64 2)).run Tryd.prog w = .ok (.func (.func 40) #[] #[]) w := by kernel_rfl
theorem index3 (w : World) : (Instr.index 87 five (.int .i64 3)).run Tryd.prog w = .ok (.func (.func 41) #[] #[]) w := by kernel_rfl
theorem index4 (w : World) : (Instr.index 87 five (.int .i64 4)).run Tryd.prog w = .ok (.func (.func 42) #[] #[]) w := by kernel_rfl
section
variable (B g b n : Nat) (t : Tk) (f : Nat → Int) (c : Int) (w : World)
set_option maxHeartbeats 4000000 in
set_option maxRecDepth 100000 in
theorem perf_ok0 (pr : Int) (Q : World → Prop) (hT : TakerAt w B t) (hp : t.ph = 0) (hQ : ∀ w', Q w' → w'.cell? ⟨B, 3, none⟩ = some (.int .i64 0))
    (hcall : ∀ W, Below w.heap.size w W → Calls Tryd.prog 38 #[.pointer (some ⟨B, 0, none⟩), .pointer (some ⟨g, 0, none⟩)] W fun e w' => e = .returned (.tuple #[.int .i64 pr, .int .i64 0]) ∧ Q w') :
    Calls Tryd.prog 32 #[.pointer (some ⟨B, 0, none⟩), .pointer (some ⟨g, 0, none⟩)] w fun e w' => e = .returned (.int .i64 pr) ∧ Q w' := by
  have HA := Lib.hid (fun W => actions_any W)
  have hix := index0
  simp only [five] at HA hix
  have k3 := hT.c3
  rw [hp] at k3
  have HC := Lib.hid hcall
  have HQ3 := Lib.hid hQ
  clear hT hp hcall hQ
  go_enter Tryd.func32, Tryd.ntmps32
  go_wp2_with fail
  go_region_held3 (fun w' => w'.cell? ⟨B, 3, none⟩ = some (.int .i64 0)) (go_keep)
    (first
      | (go_at_call 37
         refine (HA.out _).mono ?_
         rintro e w1 ⟨rfl, hB1⟩
         have q3 := keptd k3 hB1
         have HB1 := Lib.hid hB1
         clear hB1)
      | (go_at_call 38
         refine (HC.out _ (by first | exact below_drew HB1.out | exact HB1.out)).mono ?_
         rintro e w2 ⟨rfl, hq⟩
         have HQ := Lib.hid hq
         have y3 := HQ3.out _ hq
         clear hq))
  go_wp2_with fail
  go_ret
  exact ⟨rfl, HQ.out⟩
set_option maxHeartbeats 4000000 in
set_option maxRecDepth 100000 in
theorem perf_err0 (Q : World → Prop) (hT : TakerAt w B t) (hp : t.ph = 0) (hQ : ∀ w', Q w' → w'.cell? ⟨B, 3, none⟩ = some (.int .i64 0))
    (hcall : ∀ W, Below w.heap.size w W → Calls Tryd.prog 38 #[.pointer (some ⟨B, 0, none⟩), .pointer (some ⟨g, 0, none⟩)] W fun e w' => ∃ pr : Int, e = .returned (.tuple #[.int .i64 pr, .int .i64 81]) ∧ Q w') :
    Calls Tryd.prog 32 #[.pointer (some ⟨B, 0, none⟩), .pointer (some ⟨g, 0, none⟩)] w fun e w' => e = .returned (.int .i64 5) ∧ Q w' := by
  have HA := Lib.hid (fun W => actions_any W)
  have hix := index0
  simp only [five] at HA hix
  have k3 := hT.c3
  rw [hp] at k3
  have HC := Lib.hid hcall
  have HQ3 := Lib.hid hQ
  clear hT hp hcall hQ
  go_enter Tryd.func32, Tryd.ntmps32
  go_wp2_with fail
  go_region_held3 (fun w' => w'.cell? ⟨B, 3, none⟩ = some (.int .i64 0)) (go_keep)
    (first
      | (go_at_call 37
         refine (HA.out _).mono ?_
         rintro e w1 ⟨rfl, hB1⟩
         have q3 := keptd k3 hB1
         have HB1 := Lib.hid hB1
         clear hB1)
      | (go_at_call 38
         refine (HC.out _ (by first | exact below_drew HB1.out | exact HB1.out)).mono ?_
         rintro e w2 ⟨pr, rfl, hq⟩
         have HQ := Lib.hid hq
         have y3 := HQ3.out _ hq
         clear hq))
  go_wp2_with fail
  go_ret
  exact ⟨rfl, HQ.out⟩
set_option maxHeartbeats 4000000 in
set_option maxRecDepth 100000 in
theorem perf_ok1 (pr : Int) (Q : World → Prop) (hT : TakerAt w B t) (hp : t.ph = 1) (hQ : ∀ w', Q w' → w'.cell? ⟨B, 3, none⟩ = some (.int .i64 1))
    (hcall : ∀ W, Below w.heap.size w W → Calls Tryd.prog 39 #[.pointer (some ⟨B, 0, none⟩), .pointer (some ⟨g, 0, none⟩)] W fun e w' => e = .returned (.tuple #[.int .i64 pr, .int .i64 0]) ∧ Q w') :
    Calls Tryd.prog 32 #[.pointer (some ⟨B, 0, none⟩), .pointer (some ⟨g, 0, none⟩)] w fun e w' => e = .returned (.int .i64 pr) ∧ Q w' := by
  have HA := Lib.hid (fun W => actions_any W)
  have hix := index1
  simp only [five] at HA hix
  have k3 := hT.c3
  rw [hp] at k3
  have HC := Lib.hid hcall
  have HQ3 := Lib.hid hQ
  clear hT hp hcall hQ
  go_enter Tryd.func32, Tryd.ntmps32
  go_wp2_with fail
  go_region_held3 (fun w' => w'.cell? ⟨B, 3, none⟩ = some (.int .i64 1)) (go_keep)
    (first
      | (go_at_call 37
         refine (HA.out _).mono ?_
         rintro e w1 ⟨rfl, hB1⟩
         have q3 := keptd k3 hB1
         have HB1 := Lib.hid hB1
         clear hB1)
      | (go_at_call 39
         refine (HC.out _ (by first | exact below_drew HB1.out | exact HB1.out)).mono ?_
         rintro e w2 ⟨rfl, hq⟩
         have HQ := Lib.hid hq
         have y3 := HQ3.out _ hq
         clear hq))
  go_wp2_with fail
  go_ret
  exact ⟨rfl, HQ.out⟩
set_option maxHeartbeats 4000000 in
set_option maxRecDepth 100000 in
theorem perf_err1 (Q : World → Prop) (hT : TakerAt w B t) (hp : t.ph = 1) (hQ : ∀ w', Q w' → w'.cell? ⟨B, 3, none⟩ = some (.int .i64 1))
    (hcall : ∀ W, Below w.heap.size w W → Calls Tryd.prog 39 #[.pointer (some ⟨B, 0, none⟩), .pointer (some ⟨g, 0, none⟩)] W fun e w' => ∃ pr : Int, e = .returned (.tuple #[.int .i64 pr, .int .i64 81]) ∧ Q w') :
    Calls Tryd.prog 32 #[.pointer (some ⟨B, 0, none⟩), .pointer (some ⟨g, 0, none⟩)] w fun e w' => e = .returned (.int .i64 5) ∧ Q w' := by
  have HA := Lib.hid (fun W => actions_any W)
  have hix := index1
  simp only [five] at HA hix
  have k3 := hT.c3
  rw [hp] at k3
  have HC := Lib.hid hcall
  have HQ3 := Lib.hid hQ
  clear hT hp hcall hQ
  go_enter Tryd.func32, Tryd.ntmps32
  go_wp2_with fail
  go_region_held3 (fun w' => w'.cell? ⟨B, 3, none⟩ = some (.int .i64 1)) (go_keep)
    (first
      | (go_at_call 37
         refine (HA.out _).mono ?_
         rintro e w1 ⟨rfl, hB1⟩
         have q3 := keptd k3 hB1
         have HB1 := Lib.hid hB1
         clear hB1)
      | (go_at_call 39
         refine (HC.out _ (by first | exact below_drew HB1.out | exact HB1.out)).mono ?_
         rintro e w2 ⟨pr, rfl, hq⟩
         have HQ := Lib.hid hq
         have y3 := HQ3.out _ hq
         clear hq))
  go_wp2_with fail
  go_ret
  exact ⟨rfl, HQ.out⟩
set_option maxHeartbeats 4000000 in
set_option maxRecDepth 100000 in
theorem perf_ok2 (pr : Int) (Q : World → Prop) (hT : TakerAt w B t) (hp : t.ph = 2) (hQ : ∀ w', Q w' → w'.cell? ⟨B, 3, none⟩ = some (.int .i64 2))
    (hcall : ∀ W, Below w.heap.size w W → Calls Tryd.prog 40 #[.pointer (some ⟨B, 0, none⟩), .pointer (some ⟨g, 0, none⟩)] W fun e w' => e = .returned (.tuple #[.int .i64 pr, .int .i64 0]) ∧ Q w') :
    Calls Tryd.prog 32 #[.pointer (some ⟨B, 0, none⟩), .pointer (some ⟨g, 0, none⟩)] w fun e w' => e = .returned (.int .i64 pr) ∧ Q w' := by
  have HA := Lib.hid (fun W => actions_any W)
  have hix := index2
  simp only [five] at HA hix
  have k3 := hT.c3
  rw [hp] at k3
  have HC := Lib.hid hcall
  have HQ3 := Lib.hid hQ
  clear hT hp hcall hQ
  go_enter Tryd.func32, Tryd.ntmps32
  go_wp2_with fail
  go_region_held3 (fun w' => w'.cell? ⟨B, 3, none⟩ = some (.int .i64 2)) (go_keep)
    (first
      | (go_at_call 37
         refine (HA.out _).mono ?_
         rintro e w1 ⟨rfl, hB1⟩
         have q3 := keptd k3 hB1
         have HB1 := Lib.hid hB1
         clear hB1)
      | (go_at_call 40
         refine (HC.out _ (by first | exact below_drew HB1.out | exact HB1.out)).mono ?_
         rintro e w2 ⟨rfl, hq⟩
         have HQ := Lib.hid hq
         have y3 := HQ3.out _ hq
         clear hq))
  go_wp2_with fail
  go_ret
  exact ⟨rfl, HQ.out⟩
set_option maxHeartbeats 4000000 in
set_option maxRecDepth 100000 in
theorem perf_err2 (Q : World → Prop) (hT : TakerAt w B t) (hp : t.ph = 2) (hQ : ∀ w', Q w' → w'.cell? ⟨B, 3, none⟩ = some (.int .i64 2))
    (hcall : ∀ W, Below w.heap.size w W → Calls Tryd.prog 40 #[.pointer (some ⟨B, 0, none⟩), .pointer (some ⟨g, 0, none⟩)] W fun e w' => ∃ pr : Int, e = .returned (.tuple #[.int .i64 pr, .int .i64 81]) ∧ Q w') :
    Calls Tryd.prog 32 #[.pointer (some ⟨B, 0, none⟩), .pointer (some ⟨g, 0, none⟩)] w fun e w' => e = .returned (.int .i64 5) ∧ Q w' := by
  have HA := Lib.hid (fun W => actions_any W)
  have hix := index2
  simp only [five] at HA hix
  have k3 := hT.c3
  rw [hp] at k3
  have HC := Lib.hid hcall
  have HQ3 := Lib.hid hQ
  clear hT hp hcall hQ
  go_enter Tryd.func32, Tryd.ntmps32
  go_wp2_with fail
  go_region_held3 (fun w' => w'.cell? ⟨B, 3, none⟩ = some (.int .i64 2)) (go_keep)
    (first
      | (go_at_call 37
         refine (HA.out _).mono ?_
         rintro e w1 ⟨rfl, hB1⟩
         have q3 := keptd k3 hB1
         have HB1 := Lib.hid hB1
         clear hB1)
      | (go_at_call 40
         refine (HC.out _ (by first | exact below_drew HB1.out | exact HB1.out)).mono ?_
         rintro e w2 ⟨pr, rfl, hq⟩
         have HQ := Lib.hid hq
         have y3 := HQ3.out _ hq
         clear hq))
  go_wp2_with fail
  go_ret
  exact ⟨rfl, HQ.out⟩
set_option maxHeartbeats 4000000 in
set_option maxRecDepth 100000 in
theorem perf_ok3 (pr : Int) (Q : World → Prop) (hT : TakerAt w B t) (hp : t.ph = 3) (hQ : ∀ w', Q w' → w'.cell? ⟨B, 3, none⟩ = some (.int .i64 3))
    (hcall : ∀ W, Below w.heap.size w W → Calls Tryd.prog 41 #[.pointer (some ⟨B, 0, none⟩), .pointer (some ⟨g, 0, none⟩)] W fun e w' => e = .returned (.tuple #[.int .i64 pr, .int .i64 0]) ∧ Q w') :
    Calls Tryd.prog 32 #[.pointer (some ⟨B, 0, none⟩), .pointer (some ⟨g, 0, none⟩)] w fun e w' => e = .returned (.int .i64 pr) ∧ Q w' := by
  have HA := Lib.hid (fun W => actions_any W)
  have hix := index3
  simp only [five] at HA hix
  have k3 := hT.c3
  rw [hp] at k3
  have HC := Lib.hid hcall
  have HQ3 := Lib.hid hQ
  clear hT hp hcall hQ
  go_enter Tryd.func32, Tryd.ntmps32
  go_wp2_with fail
  go_region_held3 (fun w' => w'.cell? ⟨B, 3, none⟩ = some (.int .i64 3)) (go_keep)
    (first
      | (go_at_call 37
         refine (HA.out _).mono ?_
         rintro e w1 ⟨rfl, hB1⟩
         have q3 := keptd k3 hB1
         have HB1 := Lib.hid hB1
         clear hB1)
      | (go_at_call 41
         refine (HC.out _ (by first | exact below_drew HB1.out | exact HB1.out)).mono ?_
         rintro e w2 ⟨rfl, hq⟩
         have HQ := Lib.hid hq
         have y3 := HQ3.out _ hq
         clear hq))
  go_wp2_with fail
  go_ret
  exact ⟨rfl, HQ.out⟩
set_option maxHeartbeats 4000000 in
set_option maxRecDepth 100000 in
theorem perf_err3 (Q : World → Prop) (hT : TakerAt w B t) (hp : t.ph = 3) (hQ : ∀ w', Q w' → w'.cell? ⟨B, 3, none⟩ = some (.int .i64 3))
    (hcall : ∀ W, Below w.heap.size w W → Calls Tryd.prog 41 #[.pointer (some ⟨B, 0, none⟩), .pointer (some ⟨g, 0, none⟩)] W fun e w' => ∃ pr : Int, e = .returned (.tuple #[.int .i64 pr, .int .i64 81]) ∧ Q w') :
    Calls Tryd.prog 32 #[.pointer (some ⟨B, 0, none⟩), .pointer (some ⟨g, 0, none⟩)] w fun e w' => e = .returned (.int .i64 5) ∧ Q w' := by
  have HA := Lib.hid (fun W => actions_any W)
  have hix := index3
  simp only [five] at HA hix
  have k3 := hT.c3
  rw [hp] at k3
  have HC := Lib.hid hcall
  have HQ3 := Lib.hid hQ
  clear hT hp hcall hQ
  go_enter Tryd.func32, Tryd.ntmps32
  go_wp2_with fail
  go_region_held3 (fun w' => w'.cell? ⟨B, 3, none⟩ = some (.int .i64 3)) (go_keep)
    (first
      | (go_at_call 37
         refine (HA.out _).mono ?_
         rintro e w1 ⟨rfl, hB1⟩
         have q3 := keptd k3 hB1
         have HB1 := Lib.hid hB1
         clear hB1)
      | (go_at_call 41
         refine (HC.out _ (by first | exact below_drew HB1.out | exact HB1.out)).mono ?_
         rintro e w2 ⟨pr, rfl, hq⟩
         have HQ := Lib.hid hq
         have y3 := HQ3.out _ hq
         clear hq))
  go_wp2_with fail
  go_ret
  exact ⟨rfl, HQ.out⟩
set_option maxHeartbeats 4000000 in
set_option maxRecDepth 100000 in
theorem perf_ok4 (pr : Int) (Q : World → Prop) (hT : TakerAt w B t) (hp : t.ph = 4) (hQ : ∀ w', Q w' → w'.cell? ⟨B, 3, none⟩ = some (.int .i64 4))
    (hcall : ∀ W, Below w.heap.size w W → Calls Tryd.prog 42 #[.pointer (some ⟨B, 0, none⟩), .pointer (some ⟨g, 0, none⟩)] W fun e w' => e = .returned (.tuple #[.int .i64 pr, .int .i64 0]) ∧ Q w') :
    Calls Tryd.prog 32 #[.pointer (some ⟨B, 0, none⟩), .pointer (some ⟨g, 0, none⟩)] w fun e w' => e = .returned (.int .i64 pr) ∧ Q w' := by
  have HA := Lib.hid (fun W => actions_any W)
  have hix := index4
  simp only [five] at HA hix
  have k3 := hT.c3
  rw [hp] at k3
  have HC := Lib.hid hcall
  have HQ3 := Lib.hid hQ
  clear hT hp hcall hQ
  go_enter Tryd.func32, Tryd.ntmps32
  go_wp2_with fail
  go_region_held3 (fun w' => w'.cell? ⟨B, 3, none⟩ = some (.int .i64 4)) (go_keep)
    (first
      | (go_at_call 37
         refine (HA.out _).mono ?_
         rintro e w1 ⟨rfl, hB1⟩
         have q3 := keptd k3 hB1
         have HB1 := Lib.hid hB1
         clear hB1)
      | (go_at_call 42
         refine (HC.out _ (by first | exact below_drew HB1.out | exact HB1.out)).mono ?_
         rintro e w2 ⟨rfl, hq⟩
         have HQ := Lib.hid hq
         have y3 := HQ3.out _ hq
         clear hq))
  go_wp2_with fail
  go_ret
  exact ⟨rfl, HQ.out⟩
set_option maxHeartbeats 4000000 in
set_option maxRecDepth 100000 in
theorem perf_err4 (Q : World → Prop) (hT : TakerAt w B t) (hp : t.ph = 4) (hQ : ∀ w', Q w' → w'.cell? ⟨B, 3, none⟩ = some (.int .i64 4))
    (hcall : ∀ W, Below w.heap.size w W → Calls Tryd.prog 42 #[.pointer (some ⟨B, 0, none⟩), .pointer (some ⟨g, 0, none⟩)] W fun e w' => ∃ pr : Int, e = .returned (.tuple #[.int .i64 pr, .int .i64 81]) ∧ Q w') :
    Calls Tryd.prog 32 #[.pointer (some ⟨B, 0, none⟩), .pointer (some ⟨g, 0, none⟩)] w fun e w' => e = .returned (.int .i64 5) ∧ Q w' := by
  have HA := Lib.hid (fun W => actions_any W)
  have hix := index4
  simp only [five] at HA hix
  have k3 := hT.c3
  rw [hp] at k3
  have HC := Lib.hid hcall
  have HQ3 := Lib.hid hQ
  clear hT hp hcall hQ
  go_enter Tryd.func32, Tryd.ntmps32
  go_wp2_with fail
  go_region_held3 (fun w' => w'.cell? ⟨B, 3, none⟩ = some (.int .i64 4)) (go_keep)
    (first
      | (go_at_call 37
         refine (HA.out _).mono ?_
         rintro e w1 ⟨rfl, hB1⟩
         have q3 := keptd k3 hB1
         have HB1 := Lib.hid hB1
         clear hB1)
      | (go_at_call 42
         refine (HC.out _ (by first | exact below_drew HB1.out | exact HB1.out)).mono ?_
         rintro e w2 ⟨pr, rfl, hq⟩
         have HQ := Lib.hid hq
         have y3 := HQ3.out _ hq
         clear hq))
  go_wp2_with fail
  go_ret
  exact ⟨rfl, HQ.out⟩
/-- From what the step's own call leaves, seen from the world ahead of the list. -/
theorem stepQ_from {B g b n : Nat} {f : Nat → Int} {c p0 : Int} {t : Tk} {w W w' : World} (hB : Below w.heap.size w W) (h : StepQ g b n B f c p0 t W w') : StepQ g b n B f c p0 t w w' :=
  ⟨h.1, h.2.1, (Chg.of_below hB).trans h.2.2⟩
set_option maxHeartbeats 4000000 in
set_option maxRecDepth 100000 in
theorem step_set (t' : Tk) (f' : Nat → Int) (hT : TakerAt w B t) (h5 : t.ph ≠ 5) (hok : t'.ph ≤ 5 ∧ (t'.ph < 5 → 1 ≤ t'.left))
    (hP : Calls Tryd.prog 32 #[.pointer (some ⟨B, 0, none⟩), .pointer (some ⟨g, 0, none⟩)] w fun e w' => e = .returned (.int .i64 t'.ph) ∧ StepQ g b n B f' c t.ph t' w w') (hg : g ≠ B) (hb : b ≠ B) :
    Calls Tryd.prog 15 #[.pointer (some ⟨B, 0, none⟩), .pointer (some ⟨g, 0, none⟩)] w fun e w' => e = .returned (.bool (decide (t'.ph = 5))) ∧ (∃ c', c ≤ c' ∧ c' ≤ c + 1 ∧ MemAt w' g b n f' c') ∧ TakerAt w' B t' ∧ Chg (ST g b B) w w' := by
  have k3 := hT.c3
  have HP := Lib.hid hP
  have h5' : ¬ ((t.ph : Int) = 5) := by omega
  have HG := Lib.hid hg
  have HBb := Lib.hid hb
  have HO := Lib.hid hok
  clear hT hP hg hb h5 hok
  go_enter Tryd.func15, Tryd.ntmps15
  go_wp2_with fail
  with_reducible refine HP.out.mono ?_
  rintro e w1 ⟨rfl, hq⟩
  obtain ⟨⟨c', hc1, hc2, hM⟩, hpre, hC⟩ := hq
  have HM := Lib.hid hM
  have HT := Lib.hid (hpre.set HO.out)
  have HC := Lib.hid hC
  have q3 := hpre.c3
  have z3 := hpre.fz 3
  clear hM hpre hC
  by_cases hx : t'.ph = 5
  · have hx' : (t'.ph : Int) = 5 := by omega
    go_wp2_with fail
    go_ret
    exact ⟨ret_b (by rw [decide_eq_true hx]), ⟨c', hc1, hc2, HM.out.setOut (fun e => HG.out e.symm) (fun e => HBb.out e.symm) _⟩, by have := HT.out; rw [hx'] at this; exact this, HC.out.setB _⟩
  · have hx' : ¬ ((t'.ph : Int) = 5) := by omega
    go_wp2_with fail
    go_ret
    exact ⟨ret_b (by rw [decide_eq_false hx]; simp [hx']), ⟨c', hc1, hc2, HM.out.setOut (fun e => HG.out e.symm) (fun e => HBb.out e.symm) _⟩, HT.out, HC.out.setB _⟩
set_option maxHeartbeats 4000000 in
set_option maxRecDepth 100000 in
theorem step_over (hT : TakerAt w B t) (h5 : t.ph = 5) :
    Calls Tryd.prog 15 #[.pointer (some ⟨B, 0, none⟩), .pointer (some ⟨g, 0, none⟩)] w fun e w' => e = .returned (.bool true) ∧ w = w' := by
  have k3 := hT.c3
  rw [h5] at k3
  clear hT h5
  go_enter Tryd.func15, Tryd.ntmps15
  go_wp2_with fail
  go_ret
  exact ⟨rfl, rfl⟩
/-- What a step does. -/
def StepP (g b n B : Nat) (t : Tk) (f : Nat → Int) (c : Int) (w : World) (e : Ending) (w' : World) : Prop :=
  e = .returned (.bool (t.next n (f t.wh.toNat)).done) ∧ (∃ c', c ≤ c' ∧ c' ≤ c + 1 ∧ MemAt w' g b n (upd f t.wh.toNat (t.word n (f t.wh.toNat))) c') ∧
    TakerAt w' B (t.next n (f t.wh.toNat)) ∧ Chg (ST g b B) w w'
theorem next_go {n : Nat} {t : Tk} {x : Int} (h : t.over n = false) : t.next n x = t.go x := by unfold Tk.next; rw [h]; rfl
theorem next_end {n : Nat} {t : Tk} {x : Int} (h : t.over n = true) : t.next n x = t.end := by unfold Tk.next; rw [h]; rfl
theorem word_go {n : Nat} {t : Tk} {x : Int} (h : t.over n = false) : t.word n x = t.puts x := by unfold Tk.word; rw [h]; rfl
theorem word_end {n : Nat} {t : Tk} {x : Int} (h : t.over n = true) : t.word n x = x := by unfold Tk.word; rw [h]; rfl
theorem go_done {t : Tk} {x : Int} (hp : t.ph < 5) (hd : t.done = false) : (t.go x).done = decide ((t.go x).ph = 5) := by
  rcases cases6 (p := t.ph) (by omega) with e | e | e | e | e | e
  · unfold Tk.go; rw [e]; simp [hd]
  · unfold Tk.go; rw [e]; simp only; split <;> simp [hd, e]
  · unfold Tk.go; rw [e]; simp [hd]
  · unfold Tk.go; rw [e]; simp [hd]
  · unfold Tk.go; rw [e]; simp only; split <;> simp [hd]
  · omega
end
set_option maxHeartbeats 1000000 in
theorem step_any (B g b n : Nat) (t : Tk) (f : Nat → Int) (c : Int) (w : World) (hD : t.done = false) (hT : TakerAt w B t) (hgB : g ≠ B) (hbB : b ≠ B) (hG : GOk w) (hM : MemAt w g b n f c) (hn : n ≤ 4096) (hc : 0 ≤ c ∧ c ≤ 1000000) :
    Calls Tryd.prog 15 #[.pointer (some ⟨B, 0, none⟩), .pointer (some ⟨g, 0, none⟩)] w fun e w' => StepP g b n B t f c w e w' := by
  have hpl := hT.pl
  by_cases h5 : t.ph = 5
  · have ho : t.over n = true := by unfold Tk.over; rw [h5]; rfl
    refine (step_over B g t w hT h5).mono ?_
    rintro e w' ⟨rfl, rfl⟩
    unfold StepP
    rw [next_end ho, word_end ho, upd_self]
    exact ⟨rfl, ⟨c, Int.le_refl _, by omega, hM⟩, hT.as rfl rfl rfl h5.symm rfl (by unfold Tk.end; simp [h5]), Chg.refl _⟩
  have hp5 : t.ph < 5 := by omega
  cases ho : t.over n
  · -- the word is there
    have hin : 0 ≤ t.wh ∧ t.wh < n := by
      unfold Tk.over at ho
      simp at ho
      exact inM_yes ho.2
    have e2 : ((t.wh.toNat : Nat) : Int) = t.wh := by omega
    have hi : t.wh.toNat < n := by omega
    have key : ∀ (t' : Tk) (f' : Nat → Int), t'.at' = (t.go (f t.wh.toNat)).at' → t'.cl = (t.go (f t.wh.toNat)).cl → t'.left = (t.go (f t.wh.toNat)).left → t'.ph = (t.go (f t.wh.toNat)).ph → t'.tk = (t.go (f t.wh.toNat)).tk → t'.ld = (t.go (f t.wh.toNat)).ld →
        f' = upd f t.wh.toNat (t.puts (f t.wh.toNat)) → (t'.ph < 5 → 1 ≤ t'.left) → t'.ph ≤ 5 → (Calls Tryd.prog 32 #[.pointer (some ⟨B, 0, none⟩), .pointer (some ⟨g, 0, none⟩)] w fun e w' => e = .returned (.int .i64 t'.ph) ∧ StepQ g b n B f' c t.ph t' w w') →
        Calls Tryd.prog 15 #[.pointer (some ⟨B, 0, none⟩), .pointer (some ⟨g, 0, none⟩)] w fun e w' => StepP g b n B t f c w e w' := fun t' f' q0 q1 q2 q3 q4 q5 hf q6 q7 hP => by
      refine (step_set B g b n t c w t' f' hT h5 ⟨q7, q6⟩ hP hgB hbB).mono ?_
      rintro e w' ⟨rfl, hM', hT', hC⟩
      unfold StepP
      rw [next_go ho, word_go ho, ← hf, go_done hp5 hD, ← q3]
      exact ⟨rfl, hM', hT'.as q0.symm q1.symm q2.symm q3.symm q4.symm q5.symm, hC⟩
    rcases cases6 hpl.1 with e | e | e | e | e | e
    · have hw : t.wh = t.at' := by unfold Tk.wh; rw [e]; rfl
      have hgo : t.go (f t.wh.toNat) = { t with tk := f t.wh.toNat, ph := 1 } := by unfold Tk.go; rw [e]; rfl
      have hpu : t.puts (f t.wh.toNat) = inc (f t.wh.toNat) := by unfold Tk.puts; rw [e]; rfl
      refine key { t with tk := f t.wh.toNat, ph := 1 } (upd f t.wh.toNat (inc (f t.wh.toNat))) (by rw [hgo]) (by rw [hgo]) (by rw [hgo]) (by rw [hgo]) (by rw [hgo]) (by rw [hgo]) (by rw [hpu]) (fun _ => hpl.2 hp5) (by simp) ?_
      exact perf_ok0 B g t w 1 _ hT e (fun w' h => by have := h.2.1.c3; rw [e] at this; exact this) fun W hB => (draw_yes _ B g b n t f c W (hT.keep hB) hgB hbB (hG.keep hB) (hM.keep hB) hn (by omega) hi hc).mono fun e w' h => ⟨h.1, stepQ_from hB h.2⟩
    · have hw : t.wh = t.at' + 1 := by unfold Tk.wh; rw [e]; rfl
      have hpu : t.puts (f t.wh.toNat) = f t.wh.toNat := by unfold Tk.puts; rw [e]; rfl
      have hgo : t.go (f t.wh.toNat) = { t with ph := if f t.wh.toNat = t.tk then 2 else 1 } := by
        unfold Tk.go; rw [e]; simp only
        split
        · rfl
        · rw [← e]
      refine key { t with ph := if f t.wh.toNat = t.tk then 2 else 1 } f (by rw [hgo]) (by rw [hgo]) (by rw [hgo]) (by rw [hgo]) (by rw [hgo]) (by rw [hgo]) (by rw [hpu, upd_self]) (fun _ => hpl.2 hp5) (by show (if f t.wh.toNat = t.tk then 2 else 1) ≤ 5; split <;> omega) ?_
      exact perf_ok1 B g t w _ _ hT e (fun w' h => by have := h.2.1.c3; rw [e] at this; exact this) fun W hB => (check_yes _ B g b n t f c W (hT.keep hB) hgB hbB (hG.keep hB) (hM.keep hB) hn (by omega) hi hc).mono fun e w' h => ⟨h.1, stepQ_from hB h.2⟩
    · have hw : t.wh = t.cl := by unfold Tk.wh; rw [e]; rfl
      have hgo : t.go (f t.wh.toNat) = { t with ld := f t.wh.toNat, ph := 3 } := by unfold Tk.go; rw [e]; rfl
      have hpu : t.puts (f t.wh.toNat) = f t.wh.toNat := by unfold Tk.puts; rw [e]; rfl
      refine key { t with ld := f t.wh.toNat, ph := 3 } f (by rw [hgo]) (by rw [hgo]) (by rw [hgo]) (by rw [hgo]) (by rw [hgo]) (by rw [hgo]) (by rw [hpu, upd_self]) (fun _ => hpl.2 hp5) (by simp) ?_
      exact perf_ok2 B g t w 3 _ hT e (fun w' h => by have := h.2.1.c3; rw [e] at this; exact this) fun W hB => (loads_yes _ B g b n t f c W (hT.keep hB) hgB hbB (hG.keep hB) (hM.keep hB) hn (by omega) hi hc).mono fun e w' h => ⟨h.1, stepQ_from hB h.2⟩
    · have hw : t.wh = t.cl := by unfold Tk.wh; rw [e]; rfl
      have hgo : t.go (f t.wh.toNat) = { t with ph := 4 } := by unfold Tk.go; rw [e]; rfl
      have hpu : t.puts (f t.wh.toNat) = inc t.ld := by unfold Tk.puts; rw [e]; rfl
      refine key { t with ph := 4 } (upd f t.wh.toNat (inc t.ld)) (by rw [hgo]) (by rw [hgo]) (by rw [hgo]) (by rw [hgo]) (by rw [hgo]) (by rw [hgo]) (by rw [hpu]) (fun _ => hpl.2 hp5) (by simp) ?_
      exact perf_ok3 B g t w 4 _ hT e (fun w' h => by have := h.2.1.c3; rw [e] at this; exact this) fun W hB => (stores_yes _ B g b n t f c W (hT.keep hB) hgB hbB (hG.keep hB) (hM.keep hB) hn (by omega) hi hc).mono fun e w' h => ⟨h.1, stepQ_from hB h.2⟩
    · have hw : t.wh = t.at' + 1 := by unfold Tk.wh; rw [e]; rfl
      have hpu : t.puts (f t.wh.toNat) = inc t.tk := by unfold Tk.puts; rw [e]; rfl
      have hl := hpl.2 hp5
      have hgo : t.go (f t.wh.toNat) = { t with left := t.left - 1, ph := if t.left = 1 then 5 else 0, done := (t.go (f t.wh.toNat)).done } := by
        unfold Tk.go; rw [e]; simp only
        split
        · rename_i h1; rw [h1]; rfl
        · rfl
      refine key { t with left := t.left - 1, ph := if t.left = 1 then 5 else 0 } (upd f t.wh.toNat (inc t.tk)) (by rw [hgo]) (by rw [hgo]) (by rw [hgo]) (by rw [hgo]) (by rw [hgo]) (by rw [hgo]) (by rw [hpu]) (fun hh => ?_) (by show (if t.left = 1 then 5 else 0) ≤ 5; split <;> omega) ?_
      · have hh : (if t.left = 1 then 5 else 0) < 5 := hh
        show 1 ≤ t.left - 1
        split at hh <;> omega
      exact perf_ok4 B g t w _ _ hT e (fun w' h => by have := h.2.1.c3; rw [e] at this; exact this) fun W hB => (release_yes _ B g b n t f c W (hT.keep hB) hgB hbB (hG.keep hB) (hM.keep hB) hn (by omega) hi hc hl).mono fun e w' h => ⟨h.1, stepQ_from hB h.2⟩
    · omega
  · have hno : ¬ (0 ≤ t.wh ∧ t.wh < n) := by
      unfold Tk.over at ho
      simp at ho
      exact inM_no (ho.resolve_left (by omega))
    have key : ∀ (t' : Tk), t'.at' = t.at' → t'.cl = t.cl → t'.left = t.left → t'.ph = 5 → t'.tk = t.tk → t'.ld = t.end.ld →
        (Calls Tryd.prog 32 #[.pointer (some ⟨B, 0, none⟩), .pointer (some ⟨g, 0, none⟩)] w fun e w' => e = .returned (.int .i64 5) ∧ StepQ g b n B f c t.ph t' w w') →
        Calls Tryd.prog 15 #[.pointer (some ⟨B, 0, none⟩), .pointer (some ⟨g, 0, none⟩)] w fun e w' => StepP g b n B t f c w e w' := fun t' q0 q1 q2 q3 q4 q5 hP => by
      refine (step_set B g b n t c w t' f hT h5 ⟨by omega, fun h => by omega⟩ (by rw [q3]; exact hP) hgB hbB).mono ?_
      rintro e w' ⟨rfl, hM', hT', hC⟩
      unfold StepP
      rw [next_end ho, word_end ho, upd_self, decide_eq_true q3]
      exact ⟨rfl, hM', hT'.as q0.symm q1.symm q2.symm q3.symm q4.symm q5.symm, hC⟩
    rcases cases6 hpl.1 with e | e | e | e | e | e
    · have hw : t.wh = t.at' := by unfold Tk.wh; rw [e]; rfl
      rw [hw] at hno
      refine key { t with ph := 5 } rfl rfl rfl rfl rfl (by unfold Tk.end; simp [e]) ?_
      exact perf_err0 B g t w _ hT e (fun w' h => by have := h.2.1.c3; rw [e] at this; exact this) fun W hB => (draw_no B g b n t f c W (hT.keep hB) hgB hbB (hG.keep hB) (hM.keep hB) hn hno).mono fun e w' h => ⟨1, h.1, stepQ_from hB h.2⟩
    · have hw : t.wh = t.at' + 1 := by unfold Tk.wh; rw [e]; rfl
      rw [hw] at hno
      refine key { t with ph := 5 } rfl rfl rfl rfl rfl (by unfold Tk.end; simp [e]) ?_
      exact perf_err1 B g t w _ hT e (fun w' h => by have := h.2.1.c3; rw [e] at this; exact this) fun W hB => (check_no B g b n t f c W (hT.keep hB) hgB hbB (hG.keep hB) (hM.keep hB) hn hno).mono fun e w' ⟨p, h⟩ => ⟨p, h.1, stepQ_from hB h.2⟩
    · have hw : t.wh = t.cl := by unfold Tk.wh; rw [e]; rfl
      rw [hw] at hno
      refine key { t with ld := 0, ph := 5 } rfl rfl rfl rfl rfl (by unfold Tk.end; simp [e]) ?_
      exact perf_err2 B g t w _ hT e (fun w' h => by have := h.2.1.c3; rw [e] at this; exact this) fun W hB => (loads_no B g b n t f c W (hT.keep hB) hgB hbB (hG.keep hB) (hM.keep hB) hn hno).mono fun e w' h => ⟨3, h.1, stepQ_from hB h.2⟩
    · have hw : t.wh = t.cl := by unfold Tk.wh; rw [e]; rfl
      rw [hw] at hno
      refine key { t with ph := 5 } rfl rfl rfl rfl rfl (by unfold Tk.end; simp [e]) ?_
      exact perf_err3 B g t w _ hT e (fun w' h => by have := h.2.1.c3; rw [e] at this; exact this) fun W hB => (stores_no B g b n t f c W (hT.keep hB) hgB hbB (hG.keep hB) (hM.keep hB) hn hno).mono fun e w' h => ⟨4, h.1, stepQ_from hB h.2⟩
    · have hw : t.wh = t.at' + 1 := by unfold Tk.wh; rw [e]; rfl
      rw [hw] at hno
      refine key { t with ph := 5 } rfl rfl rfl rfl rfl (by unfold Tk.end; simp [e]) ?_
      exact perf_err4 B g t w _ hT e (fun w' h => by have := h.2.1.c3; rw [e] at this; exact this) fun W hB => (release_no B g b n t f c W (hT.keep hB) hgB hbB (hG.keep hB) (hM.keep hB) hn hno).mono fun e w' h => ⟨5, h.1, stepQ_from hB h.2⟩
    · omega
/-- A new taker. -/
def NewP (a cl times : Int) (w : World) (e : Ending) (w' : World) : Prop := e = .returned (.pointer (some ⟨w.heap.size, 0, none⟩)) ∧ TakerAt w' w.heap.size (tk0 a cl times) ∧ Below w.heap.size w w' ∧ w'.heap.size = w.heap.size + 1
set_option maxHeartbeats 2000000 in
set_option maxRecDepth 100000 in
theorem taker_new (a cl times : Int) (w : World) (ht : times ≤ 1000) (ha : -1000 ≤ a ∧ a ≤ 1000) :
    Calls Tryd.prog 12 #[.int .i64 a, .int .i64 cl, .int .i64 times] w fun e w' => NewP a cl times w e w' := by
  have HT := Lib.hid ht
  have HA := Lib.hid ha
  clear ht ha
  by_cases h : times < 1
  · have e : tk0 a cl times = ⟨0, 0, 0, 5, 0, 0, false⟩ := by unfold tk0; rw [if_pos h]
    unfold NewP
    rw [e]
    clear e
    go_enter Tryd.func12, Tryd.ntmps12
    go_wp2_with fail
    go_ret
    exact ⟨rfl, ⟨al_new _ _ _ 0 _ rfl rfl, al_new _ _ _ 1 _ rfl rfl, al_new _ _ _ 2 _ rfl rfl, al_new _ _ _ 3 _ rfl rfl, al_new _ _ _ 4 _ rfl rfl, al_new _ _ _ 5 _ rfl rfl, fun j => frozen_at _ _ _ j _ rfl, by simp, by simp, by simp⟩, (Below.refl _ _).alloc (Nat.le_refl _) _, by simp⟩
  · have e : tk0 a cl times = ⟨a, cl, times, 0, 0, 0, false⟩ := by unfold tk0; rw [if_neg h]
    unfold NewP
    rw [e]
    clear e
    go_enter Tryd.func12, Tryd.ntmps12
    go_wp2_with fail
    go_ret
    exact ⟨rfl, ⟨al_new _ _ _ 0 _ rfl rfl, al_new _ _ _ 1 _ rfl rfl, al_new _ _ _ 2 _ rfl rfl, al_new _ _ _ 3 _ rfl rfl, al_new _ _ _ 4 _ rfl rfl, al_new _ _ _ 5 _ rfl rfl, fun j => frozen_at _ _ _ j _ rfl, by have := HT.out; show 0 ≤ times ∧ times ≤ 1000; omega, HA.out, by simp; omega⟩, (Below.refl _ _).alloc (Nat.le_refl _) _, by simp⟩
set_option maxHeartbeats 2000000 in
set_option maxRecDepth 100000 in
theorem holds_any (B : Nat) (t : Tk) (w : World) (hT : TakerAt w B t) : Calls Tryd.prog 18 #[.pointer (some ⟨B, 0, none⟩)] w fun e w' => e = .returned (.bool t.holds) ∧ w = w' := by
  have k3 := hT.c3
  unfold Tk.holds
  clear hT
  by_cases h1 : 2 ≤ t.ph
  · have h1' : (2 : Int) ≤ t.ph := by omega
    by_cases h2 : t.ph ≤ 4
    · have h2' : (t.ph : Int) ≤ 4 := by omega
      rw [decide_eq_true h1, decide_eq_true h2]
      go_enter Tryd.func18, Tryd.ntmps18
      go_wp2_with fail
      go_ret
      exact ⟨rfl, rfl⟩
    · have h2' : ¬ (t.ph : Int) ≤ 4 := by omega
      rw [decide_eq_true h1, decide_eq_false h2]
      go_enter Tryd.func18, Tryd.ntmps18
      go_wp2_with fail
      go_ret
      exact ⟨rfl, rfl⟩
  · have h1' : ¬ (2 : Int) ≤ t.ph := by omega
    rw [decide_eq_false h1, Bool.false_and]
    go_enter Tryd.func18, Tryd.ntmps18
    go_wp2_with fail
    go_ret
    exact ⟨rfl, rfl⟩
set_option maxHeartbeats 2000000 in
set_option maxRecDepth 100000 in
theorem waits_any (B : Nat) (t : Tk) (w : World) (hT : TakerAt w B t) : Calls Tryd.prog 19 #[.pointer (some ⟨B, 0, none⟩)] w fun e w' => e = .returned (.bool t.waits) ∧ w = w' := by
  have k3 := hT.c3
  unfold Tk.waits
  clear hT
  by_cases h1 : t.ph = 1
  · have h1' : (t.ph : Int) = 1 := by omega
    rw [decide_eq_true h1]
    rw [h1'] at k3
    go_enter Tryd.func19, Tryd.ntmps19
    go_wp2_with fail
    go_ret
    exact ⟨rfl, rfl⟩
  · have h1' : ¬ (t.ph : Int) = 1 := by omega
    have h1b : ((t.ph : Int) == 1) = false := by simpa using h1'
    rw [decide_eq_false h1]
    go_enter Tryd.func19, Tryd.ntmps19
    go_wp2_with fail
    go_ret
    exact ⟨rfl, rfl⟩
set_option maxHeartbeats 2000000 in
set_option maxRecDepth 100000 in
theorem ticket_any (B : Nat) (t : Tk) (w : World) (hT : TakerAt w B t) : Calls Tryd.prog 20 #[.pointer (some ⟨B, 0, none⟩)] w fun e w' => e = .returned (.int .u32 t.tk) ∧ w = w' := by
  have k4 := hT.c4
  clear hT
  go_enter Tryd.func20, Tryd.ntmps20
  go_wp2_with fail
  go_ret
  exact ⟨rfl, rfl⟩
set_option maxHeartbeats 2000000 in
set_option maxRecDepth 100000 in
theorem leftT_any (B : Nat) (t : Tk) (w : World) (hT : TakerAt w B t) : Calls Tryd.prog 21 #[.pointer (some ⟨B, 0, none⟩)] w fun e w' => e = .returned (.int .i64 t.left) ∧ w = w' := by
  have k2 := hT.c2
  clear hT
  go_enter Tryd.func21, Tryd.ntmps21
  go_wp2_with fail
  go_ret
  exact ⟨rfl, rfl⟩
end Go.Proofs.YtdegfadahlcgnaaDoor
