/-
  A step of a task: it ends, it adds 1, it loads, or it misses.
-/
import Derived.Test.YtdhanenbcjmfkaaDoorStep
namespace Go.Proofs.YtdhanenbcjmfkaaDoor
open Go.RowKit

set_option maxHeartbeats 2000000 in
set_option maxRecDepth 100000 in
theorem step_over (cb g : Nat) (left : Int) (w : World) (h0 : w.cell? ⟨cb, 0, none⟩ = some (.int .i64 left)) (hl : left < 1) :
    Calls Tryd.prog 57 #[.pointer (some ⟨cb, 0, none⟩), .pointer (some ⟨g, 0, none⟩)] w fun e w' => e = .returned (.bool true) ∧ w = w' := by
  go_enter Tryd.func57, Tryd.ntmps57
  go_wp2_with fail
  go_ret
  exact ⟨rfl, rfl⟩
section
variable (K : FuncId) (cap : Array Value) (cb g : Nat) (left : Int) (w : World) (Q : World → Prop)
/-- What the use leaves as it was. -/
def KeepsC (cb : Nat) (left : Int) (Q : World → Prop) : Prop := ∀ w', Q w' → w'.cell? ⟨cb, 0, none⟩ = some (.int .i64 left) ∧ w'.frozen? ⟨cb, 0, none⟩ = false
set_option maxHeartbeats 2000000 in
set_option maxRecDepth 100000 in
theorem step_err (x : Bool) (h0 : w.cell? ⟨cb, 0, none⟩ = some (.int .i64 left)) (h1 : w.cell? ⟨cb, 1, none⟩ = some (.func (.func K) #[] cap)) (hK : Enters K) (hl : 1 ≤ left) (hQ : KeepsC cb left Q)
    (hcall : Calls Tryd.prog K (#[.pointer (some ⟨g, 0, none⟩)] ++ cap) w fun e w' => e = .returned (.tuple #[.bool x, .int .i64 81]) ∧ Q w') :
    Calls Tryd.prog 57 #[.pointer (some ⟨cb, 0, none⟩), .pointer (some ⟨g, 0, none⟩)] w fun e w' => e = .returned (.bool true) ∧ ∃ w1, Q w1 ∧ w' = w1.setCell ⟨cb, 0, none⟩ (.int .i64 0) := by
  have HC := Lib.hid hcall
  have HQ := Lib.hid hQ
  have eg := hK
  unfold Enters at eg
  clear hcall hK hQ
  go_enter Tryd.func57, Tryd.ntmps57
  go_wp2_with fail
  refine HC.out.mono ?_
  rintro e w1 ⟨rfl, hq⟩
  obtain ⟨q0, q1⟩ := HQ.out _ hq
  have HQ1 := Lib.hid hq
  clear hq h0 h1
  go_wp2_with fail
  go_ret
  exact ⟨rfl, w1, HQ1.out, rfl⟩
set_option maxHeartbeats 2000000 in
set_option maxRecDepth 100000 in
theorem step_hit (h0 : w.cell? ⟨cb, 0, none⟩ = some (.int .i64 left)) (h1 : w.cell? ⟨cb, 1, none⟩ = some (.func (.func K) #[] cap)) (hK : Enters K) (hl : 1 ≤ left) (hl2 : left ≤ 1000) (hQ : KeepsC cb left Q)
    (hcall : Calls Tryd.prog K (#[.pointer (some ⟨g, 0, none⟩)] ++ cap) w fun e w' => e = .returned (.tuple #[.bool true, .int .i64 0]) ∧ Q w') :
    Calls Tryd.prog 57 #[.pointer (some ⟨cb, 0, none⟩), .pointer (some ⟨g, 0, none⟩)] w fun e w' => e = .returned (.bool (decide (left = 1))) ∧ ∃ w1, Q w1 ∧ w' = w1.setCell ⟨cb, 0, none⟩ (.int .i64 (left - 1)) := by
  have HC := Lib.hid hcall
  have HQ := Lib.hid hQ
  have eg := hK
  unfold Enters at eg
  clear hcall hK hQ
  go_enter Tryd.func57, Tryd.ntmps57
  go_wp2_with fail
  refine HC.out.mono ?_
  rintro e w1 ⟨rfl, hq⟩
  obtain ⟨q0, q1⟩ := HQ.out _ hq
  have HQ1 := Lib.hid hq
  clear hq h0 h1
  go_wp2_with fail
  go_ret
  exact ⟨ret_b (by rw [Bool.eq_iff_iff]; simp; omega), w1, HQ1.out, rfl⟩
set_option maxHeartbeats 2000000 in
set_option maxRecDepth 100000 in
theorem step_miss (h0 : w.cell? ⟨cb, 0, none⟩ = some (.int .i64 left)) (h1 : w.cell? ⟨cb, 1, none⟩ = some (.func (.func K) #[] cap)) (hK : Enters K) (hl : 1 ≤ left) (hQ : KeepsC cb left Q)
    (hcall : Calls Tryd.prog K (#[.pointer (some ⟨g, 0, none⟩)] ++ cap) w fun e w' => e = .returned (.tuple #[.bool false, .int .i64 0]) ∧ Q w') :
    Calls Tryd.prog 57 #[.pointer (some ⟨cb, 0, none⟩), .pointer (some ⟨g, 0, none⟩)] w fun e w' => e = .returned (.bool false) ∧ Q w' := by
  have HC := Lib.hid hcall
  have HQ := Lib.hid hQ
  have eg := hK
  unfold Enters at eg
  clear hcall hK hQ
  go_enter Tryd.func57, Tryd.ntmps57
  go_wp2_with fail
  refine HC.out.mono ?_
  rintro e w1 ⟨rfl, hq⟩
  obtain ⟨q0, q1⟩ := HQ.out _ hq
  have HQ1 := Lib.hid hq
  clear hq h0 h1
  go_wp2_with fail
  go_ret
  exact ⟨ret_b (by rw [Bool.eq_iff_iff]; simp; omega), HQ1.out⟩
end
/-- The block of a task's counter. -/
def cbT (K B : Nat) : Nat := if K = 0 then B + 1 else B + 5
/-- A task in memory, at B .. B + 5. -/
structure TaskAt (w : World) (B : Nat) (t : Tk) : Prop where
  a0 : t.kind = 0 → w.cell? ⟨B, 0, none⟩ = some (.int .i64 t.at') ∧ w.cell? ⟨B + 1, 1, none⟩ = some (.func (.func 33) #[] #[.pointer (some ⟨B, 0, none⟩)])
  bx : t.kind ≠ 0 → Box w B t.kind t.at' t.has t.v ∧ w.cell? ⟨B + 5, 1, none⟩ = some (.func (.func 38) #[] #[.pointer (some ⟨B + 4, 0, none⟩), .pointer (some ⟨B + 2, 0, none⟩), .pointer (some ⟨B + 3, 0, none⟩), .pointer (some ⟨B + 1, 0, none⟩)]) ∧ B + 6 ≤ w.heap.size
  lf : w.cell? ⟨cbT t.kind B, 0, none⟩ = some (.int .i64 t.left)
  fz : w.frozen? ⟨cbT t.kind B, 0, none⟩ = false
  ub : t.left ≤ 1000
/-- How many blocks that are. -/
def szT (K : Nat) : Nat := if K = 0 then 2 else 6
theorem cbT_lt (K B : Nat) : B < cbT K B ∧ cbT K B < B + szT K := by unfold cbT szT; split <;> omega
theorem szT_le (K : Nat) : szT K ≤ 6 := by unfold szT; split <;> omega
theorem TaskAt.same {w w' : World} {B : Nat} {t : Tk} (h : TaskAt w B t) (e : ∀ k, B ≤ k → k < B + szT t.kind → w'.heap[k]? = w.heap[k]?) (hs : w.heap.size ≤ w'.heap.size) : TaskAt w' B t := by
  obtain ⟨a0, bx, lf, fz, ub⟩ := h
  have hc := cbT_lt t.kind B
  refine ⟨fun hk => ?_, fun hk => ?_, ?_, ?_, ub⟩
  · obtain ⟨h1, h2⟩ := a0 hk
    have h6 : szT t.kind = 2 := by unfold szT; rw [if_pos hk]
    exact ⟨by rw [World.cell?_of_block (w := w) (e B (by omega) (by omega))]; exact h1, by rw [World.cell?_of_block (w := w) (e (B + 1) (by omega) (by omega))]; exact h2⟩
  · obtain ⟨h1, h2, h3⟩ := bx hk
    have h6 : szT t.kind = 6 := by unfold szT; rw [if_neg hk]
    exact ⟨h1.same fun k a b => e k a (by omega), by rw [World.cell?_of_block (w := w) (e (B + 5) (by omega) (by omega))]; exact h2, by omega⟩
  · rw [World.cell?_of_block (w := w) (e (cbT t.kind B) (by omega) (by omega))]; exact lf
  · rw [World.frozen?_of_block (w := w) (e (cbT t.kind B) (by omega) (by omega))]; exact fz
theorem TaskAt.lt {w : World} {B : Nat} {t : Tk} (h : TaskAt w B t) : B + szT t.kind ≤ w.heap.size := by
  unfold szT
  split
  · rename_i hk
    have := cell_lt (h.a0 hk).2
    simp at this
    omega
  · rename_i hk
    have := (h.bx hk).2.2
    omega
theorem TaskAt.keep {w w' : World} {B : Nat} {t : Tk} (h : TaskAt w B t) (hB : Below w.heap.size w w') : TaskAt w' B t :=
  h.same (fun k _ _ => hB.block k (by have := h.lt; omega)) hB.size
/-- The blocks that a step of a task may change. -/
def ST (g b K B : Nat) (k : Nat) : Prop := k = g ∨ k = b ∨ B ≤ k ∧ k < B + szT K
/-- What a step does. -/
def StepP (g b n B : Nat) (t : Tk) (f : Nat → Int) (c : Int) (w : World) (e : Ending) (w' : World) : Prop :=
  e = .returned (.bool (t.next n (f t.at'.toNat)).done) ∧ (∃ c', c ≤ c' ∧ c' ≤ c + 1 ∧ MemAt w' g b n (upd f t.at'.toNat (t.word n (f t.at'.toNat))) c') ∧
    ((t.next n (f t.at'.toNat)).done = false → TaskAt w' B (t.next n (f t.at'.toNat))) ∧ Chg (ST g b t.kind B) w w'
theorem upd_self (f : Nat → Int) (i : Nat) : ∀ j, upd f i (f i) j = f j := fun j => by
  unfold upd; split
  · subst j; rfl
  · rfl
theorem word_over {n : Nat} {t : Tk} {x : Int} (h : t.over n = true) : t.word n x = x := by unfold Tk.word; rw [h]; rfl
theorem next_over {n : Nat} {t : Tk} {x : Int} (h : t.over n = true) : t.next n x = t.end := by unfold Tk.next; rw [if_pos h]
theorem word_hot {n : Nat} {t : Tk} {x : Int} (h : t.over n = false) (h2 : t.hot x = true) : t.word n x = t.puts x := by unfold Tk.word; rw [h, h2]; rfl
theorem next_hot {n : Nat} {t : Tk} {x : Int} (h : t.over n = false) (h2 : t.hot x = true) : t.next n x = t.less := by unfold Tk.next; rw [if_neg (by simp [h]), if_pos h2]
theorem word_not {n : Nat} {t : Tk} {x : Int} (h2 : t.hot x = false) : t.word n x = x := by unfold Tk.word; rw [h2]; simp
theorem next_miss {n : Nat} {t : Tk} {x : Int} (h : t.over n = false) (h2 : t.hot x = false) (h3 : t.has = true) : t.next n x = t.miss := by unfold Tk.next; rw [if_neg (by simp [h]), if_neg (by simp [h2]), if_pos h3]
theorem next_load {n : Nat} {t : Tk} {x : Int} (h : t.over n = false) (h2 : t.hot x = false) (h3 : t.has = false) : t.next n x = t.load x := by unfold Tk.next; rw [if_neg (by simp [h]), if_neg (by simp [h2]), if_neg (by simp [h3])]
/-- An end without a use: StepP. -/
theorem stepP_end {g b n B : Nat} {t : Tk} {f : Nat → Int} {c : Int} {w w' : World} (ho : t.over n = true) (hM : MemAt w' g b n f c) (hC : Chg (ST g b t.kind B) w w') : StepP g b n B t f c w (.returned (.bool true)) w' := by
  unfold StepP
  rw [next_over ho, word_over ho]
  exact ⟨rfl, ⟨c, Int.le_refl _, by omega, hM.congr fun i _ => (upd_self f _ i).symm⟩, fun h => (by cases h), hC⟩
theorem MemAt.setOut {w : World} {g b n : Nat} {f : Nat → Int} {c : Int} (h : MemAt w g b n f c) {a : Addr} (h1 : a.block ≠ g) (h2 : a.block ≠ b) (v : Value) : MemAt (w.setCell a v) g b n f c :=
  h.same (Below.heap_setCell _ _ _ _ fun e => h1 e.symm) (Below.heap_setCell _ _ _ _ fun e => h2 e.symm)
theorem over_no {n : Nat} {t : Tk} (h : t.over n = false) : 1 ≤ t.left ∧ 0 ≤ t.at' ∧ t.at' < n := by
  unfold Tk.over at h
  simp at h
  have := inM_yes h.2
  omega

theorem add_step (g b n B : Nat) (t : Tk) (f : Nat → Int) (c : Int) (w : World) (hk : t.kind = 0) (hT : TaskAt w B t) (hgB : g < B) (hbB : b < B) (hG : GOk w) (hM : MemAt w g b n f c) (hn : n ≤ 4096) (hc : 0 ≤ c ∧ c ≤ 1000000) :
    Calls Tryd.prog 57 #[.pointer (some ⟨cbT t.kind B, 0, none⟩), .pointer (some ⟨g, 0, none⟩)] w fun e w' => StepP g b n B t f c w e w' := by
  have hcb := cbT_lt t.kind B
  have hlt := hT.lt
  obtain ⟨h0, h1⟩ := hT.a0 hk
  by_cases hl : t.left < 1
  · refine (step_over _ g _ w hT.lf hl).mono ?_
    rintro e w' ⟨rfl, rfl⟩
    exact stepP_end (by unfold Tk.over; simp [hl]) hM (Chg.refl _)
  have e1 : cbT t.kind B = B + 1 := by unfold cbT; rw [if_pos hk]
  rw [← e1] at h1
  cases ho : t.over n
  · obtain ⟨l1, l2, l3⟩ := over_no ho
    have e2 : ((t.at'.toNat : Nat) : Int) = t.at' := by omega
    have hh : t.hot (f t.at'.toNat) = true := by unfold Tk.hot; rw [hk]; rfl
    rw [← e2] at h0
    refine (step_hit 33 _ _ g t.left w (fun w' => MemAt w' g b n (setF f t.at'.toNat (inc (f t.at'.toNat))) (c + 1) ∧ Else g b w w') hT.lf h1 enters33 l1 hT.ub (fun w' ⟨_, hE⟩ => ⟨hE.cell hT.lf (by simp; omega) (by simp; omega), by rw [hE.frozen (by simp; omega) (by simp; omega) (by simp; omega)]; exact hT.fz⟩)
      (adds_yes _ B g b n f c w h0 hG hM hn (by omega) hc)).mono ?_
    rintro e w' ⟨rfl, w1, ⟨hM1, hE1⟩, rfl⟩
    unfold StepP
    rw [next_hot ho hh, word_hot ho hh]
    have hC : Chg (ST g b t.kind B) w (w1.setCell ⟨cbT t.kind B, 0, none⟩ (.int .i64 (t.left - 1))) := ((Chg.of_else hE1).mono fun k hk => hk.elim .inl fun h => .inr (.inl h)).set (a := ⟨cbT t.kind B, 0, none⟩) (.inr (.inr (by simp; omega))) _
    refine ⟨rfl, ⟨c + 1, by omega, Int.le_refl _, ?_⟩, fun _ => ?_, hC⟩
    · have : t.puts (f t.at'.toNat) = inc (f t.at'.toNat) := by unfold Tk.puts; rw [if_pos hk]
      rw [this]
      exact hM1.setOut (by simp; omega) (by simp; omega) _
    · refine ⟨fun _ => ⟨?_, ?_⟩, fun hh => absurd hk hh, ?_, ?_, by have := hT.ub; show t.left - 1 ≤ 1000; omega⟩
      · rw [World.cell?_setCell_other _ _ _ _ (by simp; try omega)]
        rw [e2] at h0
        exact hE1.cell h0 (by simp; omega) (by simp; omega)
      · rw [← e1, World.cell?_setCell_other _ _ _ _ (by simp)]
        exact hE1.cell h1 (by simp; omega) (by simp; omega)
      · exact World.cell?_setCell_same _ _ _ (hE1.cell hT.lf (by simp; omega) (by simp; omega))
      · rw [World.frozen?_setCell]
        show w1.frozen? ⟨cbT t.kind B, 0, none⟩ = false
        rw [hE1.frozen (by simp; omega) (by simp; omega) (by simp; omega)]; exact hT.fz
  · have hna : ¬ (0 ≤ t.at' ∧ t.at' < n) := by
      unfold Tk.over at ho
      simp [hl] at ho
      exact inM_no ho
    refine (step_err 33 _ _ g t.left w (fun w' => Below w.heap.size w w') true hT.lf h1 enters33 (by omega) (fun w' hB => ⟨kept hT.lf hB, by rw [hB.frozen (by simp; omega)]; exact hT.fz⟩)
      (adds_no _ B g b n f c w h0 hG hM hn hna)).mono ?_
    rintro e w' ⟨rfl, w1, hB1, rfl⟩
    exact stepP_end ho ((hM.keep hB1).setOut (by simp; omega) (by simp; omega) _) ((Chg.of_below hB1).set (a := ⟨cbT t.kind B, 0, none⟩) (.inr (.inr (by simp; omega))) _)

theorem ld_step (g b n B : Nat) (t : Tk) (f : Nat → Int) (c : Int) (w : World) (hk : t.kind ≠ 0) (hD : t.done = false) (hT : TaskAt w B t) (hgB : g < B) (hbB : b < B) (hB6 : 6 ≤ B) (hG : GOk w) (hM : MemAt w g b n f c) (hn : n ≤ 4096) (hc : 0 ≤ c ∧ c ≤ 1000000) :
    Calls Tryd.prog 57 #[.pointer (some ⟨cbT t.kind B, 0, none⟩), .pointer (some ⟨g, 0, none⟩)] w fun e w' => StepP g b n B t f c w e w' := by
  have hcb := cbT_lt t.kind B
  have hlt := hT.lt
  obtain ⟨hbx, h1, h6⟩ := hT.bx hk
  have hsz : szT t.kind = 6 := by unfold szT; rw [if_neg hk]
  by_cases hl : t.left < 1
  · refine (step_over _ g _ w hT.lf hl).mono ?_
    rintro e w' ⟨rfl, rfl⟩
    exact stepP_end (by unfold Tk.over; simp [hl]) hM (Chg.refl _)
  have e1 : cbT t.kind B = B + 5 := by unfold cbT; rw [if_neg hk]
  have h5 := h1
  rw [← e1] at h1
  have hK : ∀ w', Chg (fun k => k = g ∨ k = b ∨ k = B + 3 ∨ k = B + 4) w w' → w'.cell? ⟨cbT t.kind B, 0, none⟩ = some (.int .i64 t.left) ∧ w'.frozen? ⟨cbT t.kind B, 0, none⟩ = false := fun w' hC =>
    ⟨hC.cell hT.lf (by simp; omega), by rw [hC.frozen (by simp; omega) (by simp; omega)]; exact hT.fz⟩
  have hS : ∀ w', Chg (fun k => k = g ∨ k = b ∨ k = B + 3 ∨ k = B + 4) w w' → Chg (ST g b t.kind B) w w' := fun w' hC => hC.mono fun k hk => by
    rcases hk with h | h | h | h
    · exact .inl h
    · exact .inr (.inl h)
    · exact .inr (.inr (by omega))
    · exact .inr (.inr (by omega))
  have hcell : ST g b t.kind B (⟨cbT t.kind B, 0, none⟩ : Addr).block := .inr (.inr (by simp; omega))
  cases ho : t.over n
  · obtain ⟨l1, l2, l3⟩ := over_no ho
    have e2 : ((t.at'.toNat : Nat) : Int) = t.at' := by omega
    have hkk : (t.kind == 0) = false := by simpa using hk
    rw [← e2] at hbx
    cases hs : t.has
    · rw [hs] at hbx
      have hh : t.hot (f t.at'.toNat) = false := by unfold Tk.hot; rw [hkk, hs]; rfl
      refine (step_miss 38 _ _ g t.left w (fun w' => MemAt w' g b n f (c + 1) ∧ Box w' B t.kind t.at'.toNat true (f t.at'.toNat) ∧ Chg (fun k => k = g ∨ k = b ∨ k = B + 3 ∨ k = B + 4) w w') hT.lf h1 enters38 l1 (fun w' ⟨_, _, hC⟩ => hK w' hC)
        (lf_load t.kind t.v _ B g b n f c w hbx h6 hgB hbB hG hM hn (by omega) hc)).mono ?_
      rintro e w' ⟨rfl, hM1, hb1, hC1⟩
      unfold StepP
      rw [next_load ho hh hs, word_not hh]
      refine ⟨?_, ⟨c + 1, by omega, Int.le_refl _, hM1.congr fun i _ => (upd_self f _ i).symm⟩, fun hd => ?_, hS _ hC1⟩
      · show _ = Ending.returned (.bool t.done); rw [hD]
      · refine ⟨fun hx => absurd hx hk, fun _ => ⟨?_, hC1.cell h5 (by simp; omega), by have := hC1.size; omega⟩, (hK _ hC1).1, (hK _ hC1).2, hT.ub⟩
        rw [e2] at hb1
        exact hb1
    · rw [hs] at hbx
      have hok : okK t.kind (f t.at'.toNat) t.v = t.hot (f t.at'.toNat) := by unfold Tk.hot okK; rw [hkk, hs]; simp
      have hL := lf_then t.kind t.v _ B g b n f c w hbx h6 hgB hbB hG hB6 hM hn (by omega) hc
      rw [hok] at hL
      cases hh : t.hot (f t.at'.toNat)
      · rw [hh] at hL
        refine (step_miss 38 _ _ g t.left w (fun w' => MemAt w' g b n (setF f t.at'.toNat (if false = true then inc t.v else f t.at'.toNat)) (c + 1) ∧ Box w' B t.kind t.at'.toNat false t.v ∧ Chg (fun k => k = g ∨ k = b ∨ k = B + 3 ∨ k = B + 4) w w') hT.lf h1 enters38 l1 (fun w' ⟨_, _, hC⟩ => hK w' hC) hL).mono ?_
        rintro e w' ⟨rfl, hM1, hb1, hC1⟩
        unfold StepP
        rw [next_miss ho hh hs, word_not hh]
        refine ⟨?_, ⟨c + 1, by omega, Int.le_refl _, hM1⟩, fun hd => ?_, hS _ hC1⟩
        · show _ = Ending.returned (.bool t.done); rw [hD]
        · refine ⟨fun hx => absurd hx hk, fun _ => ⟨?_, hC1.cell h5 (by simp; omega), by have := hC1.size; omega⟩, (hK _ hC1).1, (hK _ hC1).2, hT.ub⟩
          rw [e2] at hb1
          exact hb1
      · rw [hh] at hL
        refine (step_hit 38 _ _ g t.left w (fun w' => MemAt w' g b n (setF f t.at'.toNat (if true = true then inc t.v else f t.at'.toNat)) (c + 1) ∧ Box w' B t.kind t.at'.toNat false t.v ∧ Chg (fun k => k = g ∨ k = b ∨ k = B + 3 ∨ k = B + 4) w w') hT.lf h1 enters38 l1 hT.ub (fun w' ⟨_, _, hC⟩ => hK w' hC) hL).mono ?_
        rintro e w' ⟨rfl, w1, ⟨hM1, hb1, hC1⟩, rfl⟩
        unfold StepP
        rw [next_hot ho hh, word_hot ho hh]
        have hp : t.puts (f t.at'.toNat) = inc t.v := by unfold Tk.puts; rw [if_neg hk]
        rw [hp]
        refine ⟨rfl, ⟨c + 1, by omega, Int.le_refl _, hM1.setOut (by simp; omega) (by simp; omega) _⟩, fun _ => ?_, (hS _ hC1).set hcell _⟩
        refine ⟨fun hx => absurd hx hk, fun _ => ⟨?_, ?_, by have := hC1.size; simp; omega⟩, World.cell?_setCell_same _ _ _ (hK _ hC1).1, by rw [World.frozen?_setCell]; exact (hK _ hC1).2, by have := hT.ub; show t.left - 1 ≤ 1000; omega⟩
        · rw [e2] at hb1
          have hl : t.less.has = false := by show (t.kind == 0 && t.has) = false; rw [hkk]; rfl
          rw [hl]
          exact hb1.same fun k _ hk6 => Below.heap_setCell _ _ _ _ (by simp; omega)
        · rw [World.cell?_setCell_other _ _ _ _ (by simp [e1])]
          exact hC1.cell h5 (by simp; omega)
  · have hna : ¬ (0 ≤ t.at' ∧ t.at' < n) := by
      unfold Tk.over at ho
      simp [hl] at ho
      exact inM_no ho
    cases hs : t.has
    · rw [hs] at hbx
      refine (step_err 38 _ _ g t.left w (fun w' => MemAt w' g b n f c ∧ Chg (fun k => k = g ∨ k = b ∨ k = B + 3 ∨ k = B + 4) w w') false hT.lf h1 enters38 (by omega) (fun w' ⟨_, hC⟩ => hK w' hC)
        (lf_load_no t.kind t.v _ B g b n f c w hbx h6 hgB hbB hG hM hn hna)).mono ?_
      rintro e w' ⟨rfl, w1, ⟨hM1, hC1⟩, rfl⟩
      exact stepP_end ho (hM1.setOut (by simp; omega) (by simp; omega) _) ((hS _ hC1).set hcell _)
    · rw [hs] at hbx
      refine (step_err 38 _ _ g t.left w (fun w' => MemAt w' g b n f c ∧ Chg (fun k => k = g ∨ k = b ∨ k = B + 3 ∨ k = B + 4) w w') _ hT.lf h1 enters38 (by omega) (fun w' ⟨_, hC⟩ => hK w' hC)
        (lf_then_no t.kind t.v _ B g b n f c w hbx h6 hgB hbB hG hB6 hM hn hna)).mono ?_
      rintro e w' ⟨rfl, w1, ⟨hM1, hC1⟩, rfl⟩
      exact stepP_end ho (hM1.setOut (by simp; omega) (by simp; omega) _) ((hS _ hC1).set hcell _)
theorem task_step (g b n B : Nat) (t : Tk) (f : Nat → Int) (c : Int) (w : World) (hD : t.done = false) (hT : TaskAt w B t) (hgB : g < B) (hbB : b < B) (hB6 : 6 ≤ B) (hG : GOk w) (hM : MemAt w g b n f c) (hn : n ≤ 4096) (hc : 0 ≤ c ∧ c ≤ 1000000) :
    Calls Tryd.prog 57 #[.pointer (some ⟨cbT t.kind B, 0, none⟩), .pointer (some ⟨g, 0, none⟩)] w fun e w' => StepP g b n B t f c w e w' := by
  by_cases hk : t.kind = 0
  · exact add_step g b n B t f c w hk hT hgB hbB hG hM hn hc
  · exact ld_step g b n B t f c w hk hD hT hgB hbB hB6 hG hM hn hc
end Go.Proofs.YtdhanenbcjmfkaaDoor
