/-
  A partition's objects.
-/
import Derived.Test.YtmfelkdcoihkpaaDoorCont
namespace Go.Proofs.YtmfelkdcoihkpaaDoor
open Go.RowKit

theorem enters71 : Enters 71 := enters_of Tryd.func71 (by kernel_rfl) rfl
def wrongB (s : SemA) : Bool := decide (s.2 = 0 ∨ s.2 < s.1)
set_option maxHeartbeats 1000000 in
theorem wrong_any (s : SemA) (w : World) :
    Calls Tryd.prog 71 #[sv s] w fun e w' => e = .returned (.bool (wrongB s)) ∧ Below w.heap.size w w' := by
  obtain ⟨x0, x1⟩ := s
  simp only [sv]
  by_cases h : x1 = 0
  · subst h
    go_enter Tryd.func71, Tryd.ntmps71
    go_wp2_with fail
    go_ret
    exact ⟨ret_b (by simp [wrongB]), (Below.refl _ _).alloc (Nat.le_refl _) _⟩
  · have hb : (x1 == 0) = false := by simpa using h
    go_enter Tryd.func71, Tryd.ntmps71
    go_wp2_with fail
    go_ret
    exact ⟨ret_b (by simp [wrongB, h]), (Below.refl _ _).alloc (Nat.le_refl _) _⟩

def MaxRel (zs : List Int) (r i : Value) : Prop :=
  ∃ (k : Nat) (m : Int), 1 ≤ k ∧ k ≤ zs.length ∧ i = .int .i64 k ∧ r = .int .u8 m ∧ byte m ∧ (∀ x : Int, m ≤ x ↔ ∀ j, j < k → zs.getD j 0 ≤ x)
theorem max_start {zs : List Int} {z0 : Int} (h0 : 1 ≤ zs.length) (hz : ∀ z ∈ zs, byte z) (h : z0 = zs.getD 0 0) : MaxRel zs (.int .u8 z0) (.int .i64 1) := by
  refine ⟨1, z0, Nat.le_refl _, h0, rfl, rfl, by rw [h]; exact hz _ (getD_mem 0 (by omega)), fun x => ⟨fun h' j hj => ?_, fun h' => ?_⟩⟩
  · obtain rfl : j = 0 := by omega
    rw [← h]; exact h'
  · rw [h]; exact h' 0 (by omega)
def MaxPost (zs : List Int) (w : World) (e : Ending) (w' : World) : Prop := ∃ r : Int, e = .returned (.int .u8 r) ∧ byte r ∧ (∀ x : Int, decide (r ≤ x) = zs.all fun z => decide (z ≤ x)) ∧ w = w'
theorem all_at {zs : List Int} {x : Int} (h : ∀ j, j < zs.length → zs.getD j 0 ≤ x) : (zs.all fun z => decide (z ≤ x)) = true := by
  rw [List.all_eq_true]
  intro z hz
  obtain ⟨j, hj, rfl⟩ := List.getElem_of_mem hz
  have := h j hj
  rw [List.getD_eq_getElem?_getD, List.getElem?_eq_getElem hj] at this
  exact decide_eq_true this
theorem max_all {zs : List Int} {m : Int} (h : ∀ x : Int, m ≤ x ↔ ∀ j, j < zs.length → zs.getD j 0 ≤ x) (x : Int) : decide (m ≤ x) = zs.all fun z => decide (z ≤ x) := by
  by_cases hx : m ≤ x
  · rw [decide_eq_true hx, all_at ((h x).1 hx)]
  · rw [decide_eq_false hx]
    symm
    rw [Bool.eq_false_iff]
    intro ha
    rw [List.all_eq_true] at ha
    exact hx ((h x).2 fun j hj => by simpa using ha _ (getD_mem 0 hj))

set_option maxHeartbeats 4000000 in
theorem max_any (A : Option Addr) (c : Nat) (zs : List Int) (w : World) (hA : BytesAt w A zs) (hz : ∀ z ∈ zs, byte z) (h0 : 1 ≤ zs.length) (hn : zs.length ≤ 1000000000000000) :
    Calls Tryd.prog 72 #[.slice A zs.length c] w fun e w' => MaxPost zs w e w' := by
  obtain ⟨b, o, rfl⟩ := Arr.head hA (i := 0) h0
  have HA := Lib.hid hA
  have HZ := Lib.hid hz
  have c0 := Arr.at (j := 0) hA (i := 0) h0 rfl
  obtain ⟨z0, hz0⟩ : ∃ z0, z0 = zs.getD 0 0 := ⟨_, rfl⟩
  simp only [bV, ← hz0, Nat.zero_mul, Nat.add_zero] at c0
  obtain ⟨n, hnn⟩ : ∃ n, n = zs.length := ⟨_, rfl⟩
  rw [← hnn] at hn h0 ⊢
  have HN := Lib.hid hnn
  have HZ0 := Lib.hid hz0
  clear hnn hz0 hA hz
  go_enter Tryd.func72, Tryd.ntmps72
  go_wp2_with fail
  go_loop [3, 4] (fun r i => MaxRel zs r i) (fun _ i => n - (intOf i).toNat)
  case atStart => exact max_start (by rw [← HN.out]; exact h0) HZ.out HZ0.out
  case round =>
    obtain ⟨k, m, hk1, hk, rfl, rfl, hm, hx⟩ := hrel
    rw [← HN.out] at hk
    have HX := Lib.hid hx
    clear hx
    unfold byte at hm
    by_cases hlt : k < n
    · have cc := Arr.at (j := 0) HA.out (i := k) (by rw [← HN.out]; exact hlt) rfl
      obtain ⟨z, hz⟩ : ∃ z, z = zs.getD k 0 := ⟨_, rfl⟩
      have hb := HZ.out _ (getD_mem 0 (show k < zs.length by rw [← HN.out]; exact hlt))
      rw [← hz] at hb
      unfold byte at hb
      simp only [bV, ← hz, Nat.mul_one, Nat.add_zero] at cc
      have HZK := Lib.hid hz
      clear hz
      go_wp2_with fail
      all_goals
        go_round
        case rel => exact ⟨k + 1, _, by omega, by rw [← HN.out]; omega, by go_num, rfl, by unfold byte; omega, fun x => ⟨fun h j hj => (by
          rcases Nat.lt_or_ge j k with h' | h'
          · exact (HX.out x).1 (by omega) j h'
          · obtain rfl : j = k := by omega
            rw [← HZK.out]; omega), fun h => (by
              have h1 := (HX.out x).2 fun j hj => h j (by omega)
              have h2 := h k (by omega)
              rw [← HZK.out] at h2
              omega)⟩⟩
        case measure => simp [intOf]; omega
    · have hk' : k = n := by omega
      subst hk'
      go_wp2_with fail
      go_ret
      exact ⟨m, rfl, hm, max_all (by rw [← HN.out]; exact HX.out), rfl⟩

/-- A partition as a value. -/
def pv (q : PartA) (S Q : Option Addr × Nat) : Value := .agg #[slV S q.1.length, .int .u8 q.2.1, slV Q q.2.2.1.length, .int .u8 q.2.2.2.1, .int .u8 q.2.2.2.2.1, .int .u8 q.2.2.2.2.2]
theorem wrong_all (l : List SemA) : (l.all fun s => decide (s.2 ≠ 0 ∧ s.1 ≤ s.2)) = !(l.any wrongB) := by
  induction l with
  | nil => rfl
  | cons x r ih =>
    rw [List.all_cons, List.any_cons, ih]
    have : decide (x.2 ≠ 0 ∧ x.1 ≤ x.2) = !wrongB x := by
      unfold wrongB
      by_cases h : x.2 = 0 ∨ x.2 < x.1
      · rw [decide_eq_true h, decide_eq_false (by omega)]; rfl
      · rw [decide_eq_false h, decide_eq_true (by omega)]; rfl
    rw [this]
    cases wrongB x <;> simp
/-- A partition's six cells. -/
def QB (W : World) (b : Nat) (S : Option Addr × Nat) (n : Nat) (ev : Int) (Q : Option Addr × Nat) (m : Nat) (a0 a1 a2 : Int) : Prop :=
  W.cell? ⟨b, 0, none⟩ = some (.slice S.1 n S.2) ∧ W.cell? ⟨b, 1, none⟩ = some (.int .u8 ev) ∧ W.cell? ⟨b, 2, none⟩ = some (.slice Q.1 m Q.2) ∧ W.cell? ⟨b, 3, none⟩ = some (.int .u8 a0) ∧ W.cell? ⟨b, 4, none⟩ = some (.int .u8 a1) ∧ W.cell? ⟨b, 5, none⟩ = some (.int .u8 a2)
theorem QB.keep {W W' : World} {b : Nat} {S : Option Addr × Nat} {n : Nat} {ev : Int} {Q : Option Addr × Nat} {m : Nat} {a0 a1 a2 : Int} (h : QB W b S n ev Q m a0 a1 a2) (hB : Below W.heap.size W W') : QB W' b S n ev Q m a0 a1 a2 :=
  ⟨kept h.1 hB, kept h.2.1 hB, kept h.2.2.1 hB, kept h.2.2.2.1 hB, kept h.2.2.2.2.1 hB, kept h.2.2.2.2.2 hB⟩
theorem QB.new (W : World) (S : Option Addr × Nat) (n : Nat) (ev : Int) (Q : Option Addr × Nat) (m : Nat) (a0 a1 a2 : Int) :
    QB (W.alloc (.cells #[.slice S.1 n S.2, .int .u8 ev, .slice Q.1 m Q.2, .int .u8 a0, .int .u8 a1, .int .u8 a2] 54)) W.heap.size S n ev Q m a0 a1 a2 := ⟨by simp, by simp, by simp, by simp, by simp, by simp⟩
theorem QB.acts {W : World} {b : Nat} {S : Option Addr × Nat} {n : Nat} {ev : Int} {Q : Option Addr × Nat} {m : Nat} {a0 a1 a2 : Int} (h : QB W b S n ev Q m a0 a1 a2) : BytesAt W (some ⟨b, 3, none⟩) [a0, a1, a2] := by
  intro i hi
  refine ⟨b, 3, rfl, fun j u hu => ?_⟩
  match i, hi, j, hu with
  | 0, _, 0, hu => simp [bV] at hu; subst hu; exact h.2.2.2.1
  | 1, _, 0, hu => simp [bV] at hu; subst hu; exact h.2.2.2.2.1
  | 2, _, 0, hu => simp [bV] at hu; subst hu; exact h.2.2.2.2.2
  | 0, _, j + 1, hu => simp at hu
  | 1, _, j + 1, hu => simp at hu
  | 2, _, j + 1, hu => simp at hu

set_option maxHeartbeats 8000000 in
set_option maxRecDepth 100000 in
theorem part_any (q : PartA) (S Q : Option Addr × Nat) (w : World) (hS : SemsAt w S.1 q.1) (hQ : BytesAt w Q.1 q.2.2.1) (hW : WfPart q) (h1 : q.1.length ≤ 140737488355328) (h2 : q.2.2.1.length ≤ 140737488355328) :
    Calls Tryd.prog 57 #[pv q S Q] w fun e w' => e = .returned (.bool (partB q)) ∧ Below w.heap.size w w' := by
  obtain ⟨ss, ev, pp, a0, a1, a2⟩ := q
  obtain ⟨sA, sc⟩ := S
  obtain ⟨qA, qc⟩ := Q
  obtain ⟨f1, f2, f3, f4, f5, f6⟩ := hW
  unfold byte at f2 f4 f5 f6
  simp only [pv, slV] at *
  obtain ⟨n, hn⟩ : ∃ n, n = ss.length := ⟨_, rfl⟩
  obtain ⟨m, hm⟩ : ∃ m, m = pp.length := ⟨_, rfl⟩
  have HB0 : Hid (Below w.heap.size w (w.alloc (.cells #[.slice sA n sc, .int .u8 ev, .slice qA m qc, .int .u8 a0, .int .u8 a1, .int .u8 a2] 54))) := (Below.refl _ _).alloc (Nat.le_refl _) _
  have HQ0 := Lib.hid (QB.new w (sA, sc) n ev (qA, qc) m a0 a1 a2)
  have HS : Hid (∀ W, Below w.heap.size w W → Calls Tryd.prog 70 #[.slice sA n sc, .func (.func 71) #[] #[]] W fun e w' => e = .returned (.bool (ss.any wrongB)) ∧ Below W.heap.size W w') := fun W hB => by
    rw [hn]
    exact contains_sem 71 #[] wrongB sA sc ss W (Arr.keep hS hB) enters71 (by omega) fun v W' _ _ => wrong_any v W'
  have HM : Hid (1 ≤ m → ∀ W, Below w.heap.size w W → Calls Tryd.prog 72 #[.slice qA m qc] W fun e w' => MaxPost pp W e w') := fun h0 W hB => by
    rw [hm] at h0 ⊢
    exact max_any qA qc pp W (Arr.keep hQ hB) f3 h0 (by omega)
  have HA : Hid (∀ W, QB W w.heap.size (sA, sc) n ev (qA, qc) m a0 a1 a2 → Calls Tryd.prog 72 #[.slice (some ⟨w.heap.size, 3, none⟩) 3 3] W fun e w' => MaxPost [a0, a1, a2] W e w') := fun W hq => by
    exact max_any _ 3 [a0, a1, a2] W hq.acts (by intro z hz; unfold byte; simp at hz; omega) (by simp) (by simp)
  have hpb : partB (ss, ev, pp, a0, a1, a2) = (decide (n ≤ 16) && !(ss.any wrongB) && decide (ev ≤ 16) && decide (1 ≤ m ∧ m ≤ 16) && pp.all (fun z => decide (z ≤ 63)) && [a0, a1, a2].all (fun z => decide (z ≤ 2))) := by
    unfold partB
    rw [wrong_all, ← hn, ← hm]
    simp [Bool.and_assoc]
  rw [hpb, ← hn, ← hm]
  rw [← hn] at h1
  rw [← hm] at h2
  obtain ⟨x2, hx2⟩ : ∃ x, x = ss.any wrongB := ⟨_, rfl⟩
  obtain ⟨x5, hx5⟩ : ∃ x, x = pp.all (fun z => decide (z ≤ 63)) := ⟨_, rfl⟩
  obtain ⟨x6, hx6⟩ : ∃ x, x = [a0, a1, a2].all (fun z => decide (z ≤ 2)) := ⟨_, rfl⟩
  rw [← hx2] at HS ⊢
  rw [← hx5, ← hx6]
  have HX5 := Lib.hid hx5
  have HX6 := Lib.hid hx6
  clear hpb hn hm hS hQ f1 f3 hx2 hx5 hx6
  by_cases k1 : n ≤ 16
  · have d1 : decide (n ≤ 16) = true := decide_eq_true k1
    rw [d1]
    clear d1
    cases x2
    · by_cases k3 : ev ≤ 16
      · have d3 : decide (ev ≤ 16) = true := decide_eq_true k3
        rw [d3]
        clear d3
        by_cases k4 : 1 ≤ m ∧ m ≤ 16
        · have d4 : decide (1 ≤ m ∧ m ≤ 16) = true := decide_eq_true k4
          have dd4 : decide ((1 : Int) ≤ (m : Int) ∧ (m : Int) ≤ 16) = true := decide_eq_true (by omega)
          have h40 := k4.1
          rw [d4]
          have DD4 := Lib.hid dd4
          clear d4 dd4 k4
          cases x5
          · go_enter Tryd.func57, Tryd.ntmps57
            go_wp2_with fail
            refine (HS.out _ HB0.out).mono ?_
            rintro e w1 ⟨rfl, hB⟩
            have HB1 := Lib.hid hB
            obtain ⟨p0, p1, p2, p3, p4, p5⟩ := HQ0.out.keep hB
            dsimp only at p0 p1 p2 p3 p4 p5
            clear hB
            go_wp2_with fail
            refine (from1_any _ _ _).mono ?_
            rintro e w2 ⟨rfl, rfl⟩
            rw [DD4.out]
            go_wp2_with fail
            refine (HM.out h40 _ (below_two HB0.out HB1.out)).mono ?_
            rintro e w3 ⟨r, rfl, hr, hm, rfl⟩
            have hm63 := (hm 63).trans HX5.out.symm
            unfold byte at hr
            clear hm
            have hg : 63 < r := by simpa using hm63
            clear hm63
            go_wp2_with fail
            go_ret
            exact ⟨ret_b (by simp), below_two HB0.out HB1.out⟩
          · go_enter Tryd.func57, Tryd.ntmps57
            go_wp2_with fail
            refine (HS.out _ HB0.out).mono ?_
            rintro e w1 ⟨rfl, hB⟩
            have HB1 := Lib.hid hB
            obtain ⟨p0, p1, p2, p3, p4, p5⟩ := HQ0.out.keep hB
            dsimp only at p0 p1 p2 p3 p4 p5
            clear hB
            go_wp2_with fail
            refine (from1_any _ _ _).mono ?_
            rintro e w2 ⟨rfl, rfl⟩
            rw [DD4.out]
            go_wp2_with fail
            refine (HM.out h40 _ (below_two HB0.out HB1.out)).mono ?_
            rintro e w3 ⟨r, rfl, hr, hm, rfl⟩
            have hm63 := (hm 63).trans HX5.out.symm
            unfold byte at hr
            clear hm
            have hg : r ≤ 63 := by simpa using hm63
            clear hm63
            go_wp2_with fail
            refine (HA.out _ ⟨p0, p1, p2, p3, p4, p5⟩).mono ?_
            rintro e w4 ⟨r2, rfl, hr2, hm, rfl⟩
            have hm2 := (hm 2).trans HX6.out.symm
            unfold byte at hr2
            clear hm
            cases x6
            · have hg2 : 2 < r2 := by simpa using hm2
              clear hm2
              go_wp2_with fail
              go_ret
              exact ⟨ret_b (by first | (simp; done) | (simp; omega)), below_two HB0.out HB1.out⟩
            · have hg2 : r2 ≤ 2 := by simpa using hm2
              clear hm2
              go_wp2_with fail
              go_ret
              exact ⟨ret_b (by first | (simp; done) | (simp; omega)), below_two HB0.out HB1.out⟩
        · have d4 : decide (1 ≤ m ∧ m ≤ 16) = false := decide_eq_false k4
          have dd4 : decide ((1 : Int) ≤ (m : Int) ∧ (m : Int) ≤ 16) = false := decide_eq_false (by omega)
          rw [d4]
          have DD4 := Lib.hid dd4
          clear d4 dd4 k4
          go_enter Tryd.func57, Tryd.ntmps57
          go_wp2_with fail
          refine (HS.out _ HB0.out).mono ?_
          rintro e w1 ⟨rfl, hB⟩
          have HB1 := Lib.hid hB
          obtain ⟨p0, p1, p2, p3, p4, p5⟩ := HQ0.out.keep hB
          dsimp only at p0 p1 p2 p3 p4 p5
          clear hB
          go_wp2_with fail
          refine (from1_any _ _ _).mono ?_
          rintro e w2 ⟨rfl, rfl⟩
          rw [DD4.out]
          go_wp2_with fail
          go_ret
          exact ⟨ret_b (by simp), below_two HB0.out HB1.out⟩
      · have d3 : decide (ev ≤ 16) = false := decide_eq_false k3
        rw [d3]
        clear d3
        have k3 : 16 < ev := by omega
        go_enter Tryd.func57, Tryd.ntmps57
        go_wp2_with fail
        refine (HS.out _ HB0.out).mono ?_
        rintro e w1 ⟨rfl, hB⟩
        have HB1 := Lib.hid hB
        obtain ⟨p0, p1, p2, p3, p4, p5⟩ := HQ0.out.keep hB
        dsimp only at p0 p1 p2 p3 p4 p5
        clear hB
        go_wp2_with fail
        go_ret
        exact ⟨ret_b (by simp), below_two HB0.out HB1.out⟩
    · go_enter Tryd.func57, Tryd.ntmps57
      go_wp2_with fail
      refine (HS.out _ HB0.out).mono ?_
      rintro e w1 ⟨rfl, hB⟩
      have HB1 := Lib.hid hB
      obtain ⟨p0, p1, p2, p3, p4, p5⟩ := HQ0.out.keep hB
      dsimp only at p0 p1 p2 p3 p4 p5
      clear hB
      go_wp2_with fail
      go_ret
      exact ⟨ret_b (by simp), below_two HB0.out HB1.out⟩
  · have d1 : decide (n ≤ 16) = false := decide_eq_false k1
    rw [d1]
    clear d1
    have k1 : (16 : Int) < n := by omega
    go_enter Tryd.func57, Tryd.ntmps57
    go_wp2_with fail
    go_ret
    exact ⟨ret_b (by simp), HB0.out⟩
end Go.Proofs.YtmfelkdcoihkpaaDoor
