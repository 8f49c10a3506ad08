/-
  Done, Left, Run, Round.
-/
import Derived.Test.YtcjhbmkpfclmfaaDoorSys
namespace Go.Proofs.YtcjhbmkpfclmfaaDoor
open Go.RowKit

/-- Whether a task of that number is done. -/
def Sy.doneI (N : Nat) (s : Sy) (i : Int) : Bool := isT N i && (s.l i.toNat).done
set_option maxHeartbeats 2000000 in
set_option maxRecDepth 100000 in
theorem left_any (m : Mc) (s : Sy) (c : Int) (w : World) (h : Sys w m s c) :
    Calls Tryd.prog 21 #[.pointer (some ⟨m.X, 0, none⟩)] w fun e w' => e = .returned (.int .i64 (leftN s.l m.N)) ∧ w = w' := by
  have hN := h.ok.N1
  have k1 := h.mach.x1
  have HS := Lib.hid h
  have k2 := h.mach.x2
  clear h
  go_enter Tryd.func21, Tryd.ntmps21
  go_wp2_with fail
  go_loop [3, 10] (fun n i => ∃ k : Nat, k ≤ m.N ∧ i = .int .i64 k ∧ n = .int .i64 (leftN s.l k)) (fun _ i => m.N - (intOf i).toNat)
  case atStart => exact ⟨0, Nat.zero_le _, rfl, rfl⟩
  case round =>
    obtain ⟨k, hk, rfl, rfl⟩ := hrel
    by_cases hlt : k < m.N
    · have HH := Lib.hid (has_yes k 37 ⟨m.B k, 0, none⟩ w HS.out.mach HS.out.ok.N1 hlt rfl)
      have k3 := HS.out.mach.dn.cell hlt
      have h1 : (0 : Int) ≤ (k : Int) := by omega
      have h2 : (k : Int) < (m.N : Int) := by omega
      have hle := leftN_le s.l k
      have hL : leftN s.l (k + 1) = leftN s.l k + if (s.l k).done then 0 else 1 := rfl
      obtain ⟨x, hx⟩ : ∃ x, x = leftN s.l k := ⟨_, rfl⟩
      obtain ⟨d, hd⟩ : ∃ d, d = (s.l k).done := ⟨_, rfl⟩
      rw [← hx] at hL hle ⊢
      rw [← hd] at hL k3
      cases d
      all_goals
        have HL := Lib.hid hL
        clear hL hx hd
        go_wp2_with fail
        with_reducible refine HH.out.mono ?_
        rintro e w1 ⟨rfl, rfl⟩
        go_wp2_with fail
        go_round
        case rel => exact ⟨k + 1, by omega, by go_num, by rw [HL.out]; first | rfl | simp⟩
        case measure => simp [intOf]; omega
    · obtain rfl : k = m.N := by omega
      go_wp2_with fail
      go_ret
      exact ⟨rfl, rfl⟩
/-- Numbers in a list, in blocks that S doesn't have. -/
def Ints (S : Nat → Prop) (w : World) (A : Option Addr) (n : Nat) (q : Nat → Int) : Prop := ∀ i, i < n → ∃ b o, A = some ⟨b, o, none⟩ ∧ ¬ S b ∧ w.cell? ⟨b, o + i, none⟩ = some (.int .i64 (q i))
theorem Ints.chg {S : Nat → Prop} {w w' : World} {A : Option Addr} {n : Nat} {q : Nat → Int} (h : Ints S w A n q) (hC : Chg S w w') : Ints S w' A n q := fun i hi => by
  obtain ⟨b, o, e, hs, hc⟩ := h i hi
  exact ⟨b, o, e, hs, hC.cell hc hs⟩
theorem Ints.keep {S : Nat → Prop} {w w' : World} {A : Option Addr} {n : Nat} {q : Nat → Int} (h : Ints S w A n q) (hB : Below w.heap.size w w') : Ints S w' A n q := fun i hi => by
  obtain ⟨b, o, e, hs, hc⟩ := h i hi
  exact ⟨b, o, e, hs, kept hc hB⟩
theorem Ints.cell {S : Nat → Prop} {w : World} {b o n : Nat} {q : Nat → Int} (h : Ints S w (some ⟨b, o, none⟩) n q) {i : Nat} (hi : i < n) : w.cell? ⟨b, o + i, none⟩ = some (.int .i64 (q i)) := by
  obtain ⟨b', o', e, _, hc⟩ := h i hi
  injection e with e
  injection e with e1 e2
  subst e1 e2
  exact hc
theorem Ints.head {S : Nat → Prop} {w : World} {A : Option Addr} {n : Nat} {q : Nat → Int} (h : Ints S w A n q) {i : Nat} (hi : i < n) : ∃ b o, A = some ⟨b, o, none⟩ := by
  obtain ⟨b, o, e, _⟩ := h i hi
  exact ⟨b, o, e⟩
/-- The first k picks. -/
def Sy.runI (m N : Nat) (s : Sy) (q : Nat → Int) : Nat → Sy
  | 0 => s
  | k + 1 => (s.runI m N q k).pickI m N (q k)
/-- How many of them were done. -/
def Sy.cntI (m N : Nat) (s : Sy) (q : Nat → Int) : Nat → Nat
  | 0 => 0
  | k + 1 => s.cntI m N q k + if (s.runI m N q k).err N (q k) = 0 then 1 else 0
theorem Sy.cntI_le (m N : Nat) (s : Sy) (q : Nat → Int) : ∀ k, s.cntI m N q k ≤ k
  | 0 => Nat.le_refl _
  | k + 1 => by have := Sy.cntI_le m N s q k; simp only [Sy.cntI]; split <;> omega
/-- The relation of Run's loop. -/
def RunRel (m : Mc) (s : Sy) (c : Int) (L : Nat) (q : Nat → Int) (A : Option Addr) (w : World) (n i : Value) (wr : World) : Prop :=
  ∃ k : Nat, k ≤ L ∧ i = .int .i64 k ∧ n = .int .i64 (s.cntI m.n m.N q k) ∧ Ints m.own wr A L q ∧ StepS m (s.runI m.n m.N q k) c k w wr
theorem runRel_next {m : Mc} {s : Sy} {c c1 : Int} {L k : Nat} {q : Nat → Int} {A : Option Addr} {w wr w1 : World} {x : Nat} (hk : k < L) (hA : Ints m.own wr A L q) (h1 : c ≤ c1 ∧ c1 ≤ c + k) (hC : Chg m.own w wr)
    (hS : StepS m ((s.runI m.n m.N q k).pickI m.n m.N (q k)) c1 1 wr w1) (hx : s.cntI m.n m.N q (k + 1) = x) : RunRel m s c L q A w (.int .i64 x) (.int .i64 ((k : Int) + 1)) w1 := by
  subst hx
  have := StepS.trans h1.1 h1.2 hC hS
  obtain ⟨_, _, _, _, hC1⟩ := hS
  exact ⟨k + 1, by omega, by go_num, rfl, hA.chg hC1, by exact_mod_cast this⟩
set_option maxHeartbeats 4000000 in
set_option maxRecDepth 100000 in
theorem run_any (m : Mc) (s : Sy) (c : Int) (A : Option Addr) (L cap : Nat) (q : Nat → Int) (w : World) (h : Sys w m s c) (hA : Ints m.own w A L q) (hL : L ≤ 1000) (hc : 0 ≤ c) (hc2 : c ≤ 990000) :
    Calls Tryd.prog 23 #[.pointer (some ⟨m.X, 0, none⟩), .slice A L cap] w fun e w' => e = .returned (.int .i64 (s.cntI m.n m.N q L)) ∧ StepS m (s.runI m.n m.N q L) c L w w' := by
  have HS := Lib.hid h
  have HA := Lib.hid hA
  clear h hA
  go_enter Tryd.func23, Tryd.ntmps23
  go_wp2_with fail
  go_loopw [5, 10] (fun n i wr => RunRel m s c L q A w n i wr) (fun _ i _ => L - (intOf i).toNat)
  case atStart => exact ⟨0, Nat.zero_le _, rfl, rfl, HA.out, StepS.refl HS.out (by omega)⟩
  case round =>
    obtain ⟨k, hk, rfl, rfl, hA, hSt⟩ := hrel
    by_cases hlt : k < L
    · obtain ⟨b, o, rfl⟩ := hA.head hlt
      have k1 := hA.cell hlt
      obtain ⟨c1, q1, q2, q3, q4⟩ := hSt
      have HP := Lib.hid (pick_any m _ c1 (q k) _ q3 (by omega))
      have HC1 := Lib.hid (And.intro q1 q2)
      have HC4 := Lib.hid q4
      have HA1 := Lib.hid hA
      have hle := Sy.cntI_le m.n m.N s q k
      have hL1 : s.cntI m.n m.N q (k + 1) = s.cntI m.n m.N q k + if (s.runI m.n m.N q k).err m.N (q k) = 0 then 1 else 0 := rfl
      obtain ⟨x, hx⟩ : ∃ x, x = s.cntI m.n m.N q k := ⟨_, rfl⟩
      obtain ⟨d, hd⟩ : ∃ d, d = (s.runI m.n m.N q k).err m.N (q k) := ⟨_, rfl⟩
      obtain ⟨y, hy⟩ : ∃ y, y = q k := ⟨_, rfl⟩
      rw [← hx] at hL1 hle ⊢
      rw [← hd] at HP hL1
      rw [← hy] at HP k1
      have HY := Lib.hid hy
      by_cases e0 : d = 0
      · subst e0
        have HL := Lib.hid hL1
        clear hL1 hx hd hA q1 q2 q3 q4 hy
        go_wp2_with fail
        with_reducible refine HP.out.mono ?_
        rintro e w1 ⟨rfl, hs⟩
        have HS1 := Lib.hid hs
        clear hs
        go_wp2_with fail
        go_roundw
        case rel => exact runRel_next hlt HA1.out HC1.out HC4.out (by rw [← HY.out]; exact HS1.out) (by rw [HL.out]; first | rfl | simp [e0])
        case measure => simp [intOf]; omega
      · have HL := Lib.hid hL1
        clear hL1 hx hd hA q1 q2 q3 q4 hy
        go_wp2_with fail
        with_reducible refine HP.out.mono ?_
        rintro e w1 ⟨rfl, hs⟩
        have HS1 := Lib.hid hs
        clear hs
        go_wp2_with fail
        go_roundw
        case rel => exact runRel_next hlt HA1.out HC1.out HC4.out (by rw [← HY.out]; exact HS1.out) (by rw [HL.out, if_neg e0]; rfl)
        case measure => simp [intOf]; omega
    · obtain rfl : k = L := by omega
      have HS1 := Lib.hid hSt
      clear hSt hA
      go_wp2_with fail
      go_ret
      exact ⟨rfl, HS1.out⟩
end Go.Proofs.YtcjhbmkpfclmfaaDoor
