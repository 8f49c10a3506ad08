/-
  All pass all rounds; two barriers at other words do the same; at first.
-/
import Derived.Test.YtcjhbmkpfclmfaaDoorPure
namespace Go.Proofs.YtcjhbmkpfclmfaaDoor

/-- What holds behind a pick of each. -/
theorem each {I : Int → Sy → Prop} {p : Int → Sy → Nat → Prop} {m N : Nat}
    (hs : ∀ r s i, i < N → I r s → ∃ r', I r' (s.pick m i) ∧ p r' (s.pick m i) i ∧ ∀ j, j < N → j ≠ i → p r s j → p r' (s.pick m i) j) (s : Sy) (r : Int) (h : I r s) :
    ∀ k, k ≤ N → ∃ r', I r' (s.upTo m k) ∧ ∀ i, i < k → p r' (s.upTo m k) i
  | 0, _ => ⟨r, h, fun i hi => absurd hi (by omega)⟩
  | k + 1, hk1 => by
    obtain ⟨r1, h1, h2⟩ := each hs s r h k (by omega)
    obtain ⟨r2, h3, h4, h5⟩ := hs r1 _ k (by omega) h1
    refine ⟨r2, h3, fun i hi => ?_⟩
    by_cases e : i = k
    · subst e; exact h4
    · exact h5 i (by omega) e (h2 i (by omega))
section
variable {N A m : Nat} {R : Int} (hA : A + 1 < m) (k : Int)
include hA
/-- All have passed so many rounds: behind a round of turns all have come to the next one. -/
theorem turn0 (hk : k < R) (s : Sy) (r : Int) (h : Inv N A R r s ∧ ∀ i, i < N → k ≤ (s.l i).psd) : ∃ r', Inv N A R r' (s.round m N) ∧ ∀ i, i < N → k + 1 ≤ ((s.round m N).l i).came := by
  obtain ⟨r', h1, h2⟩ := each (I := fun r s => Inv N A R r s ∧ ∀ i, i < N → k ≤ (s.l i).psd) (p := fun _ s i => k + 1 ≤ (s.l i).came) (m := m) (N := N) (fun r s i hi ⟨hI, hp⟩ => by
    obtain ⟨r', q1, q2, q3, q4, q5, q6, q7, q8, q9, q10⟩ := hI.pick hA hi
    have hkd := hI.kd i hi
    have hpi := hp i hi
    refine ⟨r', ⟨q2, fun j hj => ?_⟩, ?_, fun j hj hji hc => by rw [pick_l hji]; exact hc⟩
    · by_cases e : j = i
      · subst e; omega
      · rw [pick_l e]; exact hp j hj
    · by_cases e : (s.l i).ph = 0
      · have := q5 e
        rcases hkd with q | q | q <;> omega
      · rcases hkd with q | q | q <;> omega) s r h N (Nat.le_refl _)
  exact ⟨r', h1.1, h2⟩
/-- All have come: behind a round of turns the next one is opened, or one is about to open it. -/
theorem turn1 (s : Sy) (r : Int) (h : Inv N A R r s ∧ ∀ i, i < N → k + 1 ≤ (s.l i).came) : ∃ r', Inv N A R r' (s.round m N) ∧ (k + 1 ≤ r' ∨ (k ≤ r' ∧ ∃ i, i < N ∧ ((s.round m N).l i).ph = 2)) := by
  obtain ⟨r', ⟨h1, h3⟩, h2⟩ := each (I := fun r s => Inv N A R r s ∧ ∀ i, i < N → k + 1 ≤ (s.l i).came) (p := fun r s i => k + 1 ≤ r ∨ (s.l i).ph ≠ 1) (m := m) (N := N) (fun r s i hi ⟨hI, hp⟩ => by
    obtain ⟨r', q1, q2, q3, q4, q5, q6, q7, q8, q9, q10⟩ := hI.pick hA hi
    have hkd := hI.kd i hi
    have hpi := hp i hi
    have hph := hI.ph4 hi
    refine ⟨r', ⟨q2, fun j hj => ?_⟩, ?_, fun j hj hji hc => by
      rw [pick_l hji]
      rcases hc with hc | hc
      · exact .inl (by omega)
      · exact .inr hc⟩
    · by_cases e : j = i
      · subst e; omega
      · rw [pick_l e]; exact hp j hj
    · by_cases hr : k + 1 ≤ r'
      · exact .inl hr
      · right
        rcases cases5 hph with e | e | e | e | e
        · rcases hkd with q | q | q <;> omega
        · have := q6 e; omega
        · have := q7 e; rcases hkd with q | q | q <;> omega
        · have : (s.l i).psd = r := by rcases hkd with q | q | q <;> omega
          rw [q9 e this]; omega
        · rcases hkd with q | q | q <;> omega) s r h N (Nat.le_refl _)
  refine ⟨r', h1, ?_⟩
  by_cases hr : k + 1 ≤ r'
  · exact .inl hr
  · right
    have hN := h1.N8
    have hc : ∀ i, i < N → ((s.upTo m N).l i).came = r' + 1 := fun i hi => by
      have := h3 i hi
      rcases h1.kd i hi with q | q | q <;> omega
    have h0 := hc 0 (by omega)
    have h30 := h3 0 (by omega)
    refine ⟨by omega, ?_⟩
    rcases h1.md with q | ⟨j, hj, hj1, _⟩ | ⟨j, hj, hj1, _⟩
    · have := sumN_all (g := fun i => ((s.upTo m N).l i).arr r') (N := N) fun i hi => by unfold Tk.arr; rw [if_pos (hc i hi)]
      have := q.2.1
      omega
    · rcases h2 j hj with e | e
      · omega
      · exact absurd hj1 e
    · exact ⟨j, hj, hj1⟩
/-- One is about to open it: it does. -/
theorem turn2 (s : Sy) (r : Int) (h : Inv N A R r s ∧ (k + 1 ≤ r ∨ (k ≤ r ∧ ∃ i, i < N ∧ (s.l i).ph = 2))) : ∃ r', Inv N A R r' (s.round m N) ∧ k + 1 ≤ r' := by
  obtain ⟨r', ⟨h1, h3⟩, h2⟩ := each (I := fun r s => Inv N A R r s ∧ (k + 1 ≤ r ∨ (k ≤ r ∧ ∃ i, i < N ∧ (s.l i).ph = 2))) (p := fun r s i => k + 1 ≤ r ∨ (s.l i).ph ≠ 2) (m := m) (N := N) (fun r s i hi ⟨hI, hp⟩ => by
    obtain ⟨r', q1, q2, q3, q4, q5, q6, q7, q8, q9, q10⟩ := hI.pick hA hi
    have hkd := hI.kd i hi
    rcases hp with hp | ⟨hp, i0, hi0, e0⟩
    · exact ⟨r', ⟨q2, .inl (by omega)⟩, .inl (by omega), fun j _ _ _ => .inl (by omega)⟩
    · by_cases e : i = i0
      · subst e
        have := q7 e0
        exact ⟨r', ⟨q2, .inl (by omega)⟩, .inl (by omega), fun j _ _ _ => .inl (by omega)⟩
      · have h3 : (s.l i).ph = 3 ∧ (s.l i).came = r + 1 := by
          rcases hI.md with q | ⟨j, hj, hj1, q⟩ | ⟨j, hj, hj1, _, q⟩
          · exact absurd e0 (q.2.2 i0 hi0).2
          · by_cases hj0 : i0 = j
            · subst hj0; omega
            · have := (q i0 hi0).2 hj0; omega
          · by_cases hj0 : i0 = j
            · subst hj0; exact ⟨(q i hi).2 e, (q i hi).1⟩
            · have := (q i0 hi0).2 hj0; omega
        have hps : (s.l i).psd = r := by rcases hkd with q | q | q <;> omega
        have hsame := q9 h3.1 hps
        rw [hsame]
        exact ⟨r, ⟨hI, .inr ⟨hp, i0, hi0, e0⟩⟩, .inr (by omega), fun j _ _ hj => hj⟩) s r h N (Nat.le_refl _)
  refine ⟨r', h1, ?_⟩
  rcases h3 with e | ⟨e, i0, hi0, e0⟩
  · exact e
  · rcases h2 i0 hi0 with e1 | e1
    · exact e1
    · exact absurd e0 e1
/-- It is open: all pass. -/
theorem turn3 (s : Sy) (r : Int) (h : Inv N A R r s ∧ k + 1 ≤ r) : ∃ r', Inv N A R r' (s.round m N) ∧ ∀ i, i < N → k + 1 ≤ ((s.round m N).l i).psd := by
  obtain ⟨r', ⟨h1, h3⟩, h2⟩ := each (I := fun r s => Inv N A R r s ∧ k + 1 ≤ r) (p := fun _ s i => k + 1 ≤ (s.l i).psd) (m := m) (N := N) (fun r s i hi ⟨hI, hp⟩ => by
    obtain ⟨r', q1, q2, q3, q4, q5, q6, q7, q8, q9, q10⟩ := hI.pick hA hi
    refine ⟨r', ⟨q2, by omega⟩, ?_, fun j hj hji hc => by rw [pick_l hji]; exact hc⟩
    rcases hI.kd i hi with q | q | q
    · have := q8 q.2.2.1 (by omega); omega
    · omega
    · omega) s r h N (Nat.le_refl _)
  exact ⟨r', h1, h2⟩
/-- All have passed all: behind one round more all are done. -/
theorem turn4 (s : Sy) (r : Int) (h : Inv N A R r s ∧ ∀ i, i < N → R ≤ (s.l i).psd) : ∃ r', Inv N A R r' (s.round m N) ∧ leftN (s.round m N).l N = 0 := by
  obtain ⟨r', ⟨h1, h3⟩, h2⟩ := each (I := fun r s => Inv N A R r s ∧ ∀ i, i < N → R ≤ (s.l i).psd) (p := fun _ s i => (s.l i).done = true) (m := m) (N := N) (fun r s i hi ⟨hI, hp⟩ => by
    obtain ⟨r', q1, q2, q3, q4, q5, q6, q7, q8, q9, q10⟩ := hI.pick hA hi
    have hpi := hp i hi
    refine ⟨r', ⟨q2, fun j hj => ?_⟩, q10 (by rcases hI.kd i hi with q | q | q <;> have := hI.r0 <;> omega), fun j hj hji hc => by rw [pick_l hji]; exact hc⟩
    by_cases e : j = i
    · subst e; omega
    · rw [pick_l e]; exact hp j hj) s r h N (Nat.le_refl _)
  exact ⟨r', h1, leftN_of h2⟩
end
theorem round_done {m N : Nat} {s : Sy} (h : leftN s.l N = 0) : s.round m N = s := by
  have hd := leftN_zero h
  have : ∀ k, k ≤ N → s.upTo m k = s := fun k => by
    induction k with
    | zero => intro _; rfl
    | succ k ih =>
      intro hk
      show (s.upTo m k).pick m k = s
      rw [ih (by omega)]
      exact pick_done (hd k (by omega))
  exact this N (Nat.le_refl _)
/-- So many rounds, whatever is left. -/
def Sy.turns (m N : Nat) (s : Sy) : Nat → Sy
  | 0 => s
  | k + 1 => (s.round m N).turns m N k
theorem turns_rounds (m N : Nat) : ∀ (k : Nat) (s : Sy), s.turns m N k = s.rounds m N k
  | 0, _ => rfl
  | k + 1, s => by
    simp only [Sy.turns, Sy.rounds]
    split
    · rename_i h
      rw [round_done h, turns_rounds m N k s, Sy.rounds_done h]
    · exact turns_rounds m N k _
theorem turns_add (m N : Nat) : ∀ (s : Sy) (j k : Nat), s.turns m N (j + k) = (s.turns m N j).turns m N k
  | s, 0, k => by simp [Sy.turns]
  | s, j + 1, k => by rw [show j + 1 + k = (j + k) + 1 by omega]; exact turns_add m N _ j k
theorem turns_all {N A m : Nat} {R r : Int} {s : Sy} (hA : A + 1 < m) (h : Inv N A R r s) : ∀ K : Nat, (K : Int) ≤ R → ∃ r', Inv N A R r' (s.turns m N (4 * K)) ∧ ∀ i, i < N → (K : Int) ≤ ((s.turns m N (4 * K)).l i).psd
  | 0, _ => ⟨r, h, fun i hi => by show (0 : Int) ≤ (s.l i).psd; rcases h.kd i hi with q | q | q <;> have := h.r0 <;> omega⟩
  | K + 1, hK => by
    obtain ⟨r0, h0, p0⟩ := turns_all hA h K (by omega)
    rw [show 4 * (K + 1) = 4 * K + 4 by omega, turns_add]
    generalize s.turns m N (4 * K) = s0 at *
    obtain ⟨r1, h1, p1⟩ := turn0 hA (K : Int) (by omega) s0 r0 ⟨h0, p0⟩
    obtain ⟨r2, h2, p2⟩ := turn1 hA (K : Int) _ r1 ⟨h1, p1⟩
    obtain ⟨r3, h3, p3⟩ := turn2 hA (K : Int) _ r2 ⟨h2, p2⟩
    obtain ⟨r4, h4, p4⟩ := turn3 hA (K : Int) _ r3 ⟨h3, p3⟩
    exact ⟨r4, h4, fun i hi => by have := p4 i hi; show ((K + 1 : Nat) : Int) ≤ ((((s0.round m N).round m N).round m N).round m N |>.l i).psd; omega⟩
/-- What is left when all are done. -/
structure Fin (N A : Nat) (R : Int) (s : Sy) : Prop where
  each : ∀ i, i < N → (s.l i).psd = R ∧ (s.l i).came = R
  f0 : s.f A = 0
  f1 : s.f (A + 1) = R % 2
theorem Inv.fin {N A : Nat} {R r : Int} {s : Sy} (h : Inv N A R r s) (hz : leftN s.l N = 0) : Fin N A R s := by
  have hd := leftN_zero hz
  have h4 : ∀ i, i < N → (s.l i).ph = 4 ∧ (s.l i).psd = R ∧ (s.l i).came = R ∧ r = R := fun i hi => by
    have := h.dn i hi (hd i hi)
    rcases h.kd i hi with q | q | q <;> omega
  have hN := h.N8
  have hr := (h4 0 (by omega)).2.2.2
  refine ⟨fun i hi => ⟨(h4 i hi).2.1, (h4 i hi).2.2.1⟩, ?_, by rw [h.se, hr]⟩
  rcases h.md with q | ⟨j, hj, hj1, _⟩ | ⟨j, hj, hj1, _⟩
  · rw [q.1]
    exact sumN_zero fun i hi => by unfold Tk.arr; rw [if_neg (by have := h4 i hi; omega)]
  · have := h4 j hj; omega
  · have := h4 j hj; omega
/-- Five rounds of turns for each round do. -/
theorem rounds_all {N A m : Nat} {R r : Int} {s : Sy} (hA : A + 1 < m) (h : Inv N A R r s) (K : Nat) (hK : 4 * R + 1 ≤ K) : leftN (s.rounds m N K).l N = 0 ∧ Fin N A R (s.rounds m N K) := by
  have hr := h.r0
  obtain ⟨R', hR⟩ : ∃ R' : Nat, R = R' := ⟨R.toNat, by omega⟩
  subst hR
  obtain ⟨r1, h1, p1⟩ := turns_all hA h R' (Int.le_refl _)
  obtain ⟨r2, h2, p2⟩ := turn4 hA _ r1 ⟨h1, p1⟩
  have e : s.turns m N (4 * R' + 1) = (s.turns m N (4 * R')).round m N := turns_add m N s (4 * R') 1
  rw [← e, turns_rounds] at h2 p2
  obtain ⟨j, rfl⟩ : ∃ j, K = 4 * R' + 1 + j := ⟨K - (4 * R' + 1), by omega⟩
  rw [Sy.rounds_add, Sy.rounds_done p2]
  exact ⟨p2, h2.fin p2⟩
/-- What is kept in whatever order. -/
theorem Inv.pickI {N A m : Nat} {R : Int} {s : Sy} (hA : A + 1 < m) (h : ∃ r, Inv N A R r s) (i : Int) : ∃ r, Inv N A R r (s.pickI m N i) := by
  obtain ⟨r, h⟩ := h
  unfold Sy.pickI
  split
  · rename_i hh
    have := isT_yes hh
    obtain ⟨r', _, h', _⟩ := h.pick hA (show i.toNat < N by omega)
    exact ⟨r', h'⟩
  · exact ⟨r, h⟩
/-- A new waiter. -/
def clamp (r : Int) : Int := min (max r 0) 1000
def tk0 (a n r : Int) : Tk := ⟨a, n, r, if 0 = r then 4 else 0, 0, 0, false⟩
def sy0 (N A : Nat) (R : Int) : Sy := ⟨fun _ => tk0 A N R, fun _ => 0⟩
theorem inv0 {N A : Nat} {R : Int} (hN : 1 ≤ N ∧ N ≤ 8) (hR : 0 ≤ R ∧ R ≤ 1000) : Inv N A R 0 (sy0 N A R) := by
  have hp : (tk0 A N R).ph = if 0 = R then 4 else 0 := rfl
  refine ⟨hN, ⟨by omega, hR.1, hR.2⟩, rfl, fun _ _ => rfl, fun _ _ => rfl, fun _ _ => rfl, fun i _ => .inr (.inl ⟨rfl, rfl, ?_⟩), fun i _ hd => (by cases (show (false : Bool) = true from hd)), .inl ⟨?_, ?_, fun j _ => ?_⟩⟩
  · show ((tk0 A N R).ph = 0 ∧ _) ∨ ((tk0 A N R).ph = 4 ∧ _)
    rw [hp]
    by_cases h : 0 = R
    · rw [if_pos h]; exact .inr ⟨rfl, h⟩
    · rw [if_neg h]; exact .inl ⟨rfl, by omega⟩
  · exact (sumN_zero fun i _ => by show Tk.arr 0 (tk0 A N R) = 0; unfold Tk.arr; rw [if_neg (by show ¬ (0 : Int) = 0 + 1; omega)]).symm
  · rw [sumN_zero fun i _ => by show Tk.arr 0 (tk0 A N R) = 0; unfold Tk.arr; rw [if_neg (by show ¬ (0 : Int) = 0 + 1; omega)]]; omega
  · show (tk0 A N R).ph ≠ 1 ∧ (tk0 A N R).ph ≠ 2
    rw [hp]; split <;> simp
/-- What is told of it at any time. -/
theorem Inv.told {N A : Nat} {R r : Int} {s : Sy} (h : Inv N A R r s) : ∀ i, i < N → (s.l i).psd ≤ (s.l i).came ∧ (s.l i).came ≤ (s.l i).psd + 1 ∧ (s.l i).psd ≤ r ∧ r ≤ (s.l i).came ∧ r ≤ (s.l i).psd + 1 ∧ 0 ≤ (s.l i).psd ∧ (s.l i).psd ≤ 1000 := fun i hi => by
  have := h.r0
  rcases h.kd i hi with q | q | q <;> omega

/-! ## Two barriers at other words -/

/-- A waiter of other words. -/
def Tk.mv (t : Tk) (a : Int) : Tk := { t with at' := a }
theorem mv_pass (t : Tk) (a : Int) : (t.mv a).pass = t.pass.mv a := by
  have h : (t.mv a).pass = if t.psd + 1 = t.rds then { t.mv a with psd := t.psd + 1, ph := 4, done := true } else { t.mv a with psd := t.psd + 1, ph := 0 } := rfl
  rw [h]
  unfold Tk.pass
  split <;> rfl
theorem mv_go (t : Tk) (a x : Int) : (t.mv a).go x = (t.go x).mv a := by
  rcases (show t.ph = 0 ∨ t.ph = 1 ∨ t.ph = 2 ∨ 3 ≤ t.ph by omega) with e | e | e | e
  · rw [go0 e, go0 (t := t.mv a) e]
    show (if x = t.n - 1 then _ else _) = _
    split <;> rfl
  · rw [go1 e, go1 (t := t.mv a) e]; rfl
  · rw [go2 e, go2 (t := t.mv a) e]; exact mv_pass t a
  · have hg : ∀ t : Tk, 3 ≤ t.ph → t.go x = if x = t.own then t.pass else t := fun t h => by
      unfold Tk.go
      split
      · omega
      · omega
      · omega
      · rfl
    rw [hg t e, hg (t.mv a) e]
    show (if x = t.own then _ else _) = _
    split
    · exact mv_pass t a
    · rfl
theorem mv_puts (t : Tk) (a x : Int) : (t.mv a).puts x = t.puts x := rfl
theorem wh_two (t : Tk) (A : Nat) (h : t.at' = A) : (t.wh = A ∧ ∀ a, (t.mv a).wh = a) ∨ (t.wh = A + 1 ∧ ∀ a, (t.mv a).wh = a + 1) := by
  rcases (show t.ph = 0 ∨ t.ph = 1 ∨ 2 ≤ t.ph by omega) with e | e | e
  · left; exact ⟨by unfold Tk.wh; rw [e]; exact h, fun a => by unfold Tk.wh; rw [show (t.mv a).ph = t.ph from rfl, e]; rfl⟩
  · left; exact ⟨by unfold Tk.wh; rw [e]; exact h, fun a => by unfold Tk.wh; rw [show (t.mv a).ph = t.ph from rfl, e]; rfl⟩
  · right
    have hw : ∀ t : Tk, 2 ≤ t.ph → t.wh = t.at' + 1 := fun t h => by
      unfold Tk.wh
      split
      · omega
      · omega
      · rfl
    exact ⟨by rw [hw t e, h], fun a => by rw [hw (t.mv a) e]; rfl⟩
/-- Alike but for where their words are. -/
structure Twin (N A A' : Nat) (s s' : Sy) : Prop where
  l : ∀ i, i < N → (s.l i).at' = A ∧ s'.l i = (s.l i).mv A'
  f0 : s'.f A' = s.f A
  f1 : s'.f (A' + 1) = s.f (A + 1)
theorem go_at (t : Tk) (x : Int) : (t.go x).at' = t.at' := by
  have hp : t.pass.at' = t.at' := by unfold Tk.pass; split <;> rfl
  unfold Tk.go
  split
  · split <;> rfl
  · rfl
  · exact hp
  · split
    · exact hp
    · rfl
theorem Twin.pick {N A A' m m' : Nat} {s s' : Sy} (h : Twin N A A' s s') (hA : A + 1 < m) (hA' : A' + 1 < m') {i : Nat} (hi : i < N) : Twin N A A' (s.pick m i) (s'.pick m' i) := by
  obtain ⟨h1, h2⟩ := h.l i hi
  have hdd : (s'.l i).done = (s.l i).done := by rw [h2]; rfl
  by_cases hd : (s.l i).done = true
  · rw [pick_done hd, pick_done (hdd.trans hd)]; exact h
  have hd : (s.l i).done = false := by simpa using hd
  rw [pick_go hd, pick_go (hdd.trans hd)]
  have key : ∀ (a : Nat) (a' : Nat), (s.l i).wh = (a : Int) → (s'.l i).wh = (a' : Int) → (a = A ∧ a' = A') ∨ (a = A + 1 ∧ a' = A' + 1) →
      Twin N A A' { l := upd s.l i ((s.l i).next m (s.f (s.l i).wh.toNat)), f := upd s.f (s.l i).wh.toNat ((s.l i).word m (s.f (s.l i).wh.toNat)) } { l := upd s'.l i ((s'.l i).next m' (s'.f (s'.l i).wh.toNat)), f := upd s'.f (s'.l i).wh.toNat ((s'.l i).word m' (s'.f (s'.l i).wh.toNat)) } := fun a a' e e' hc => by
    have hf : s'.f a' = s.f a := by
      rcases hc with ⟨rfl, rfl⟩ | ⟨rfl, rfl⟩
      · exact h.f0
      · exact h.f1
    have hov : (s'.l i).over m' = (s.l i).over m := by
      unfold Tk.over
      rw [e, e', inM_of (by omega), inM_of (by omega), show (s'.l i).ph = (s.l i).ph by rw [h2]; rfl]
    have hnext : (s'.l i).next m' (s'.f a') = ((s.l i).next m (s.f a)).mv A' := by
      unfold Tk.next
      rw [hov, hf, h2]
      split
      · rfl
      · exact mv_go _ _ _
    have hword : (s'.l i).word m' (s'.f a') = (s.l i).word m (s.f a) := by
      unfold Tk.word
      rw [hov, hf, h2, mv_puts]
    rw [e, e', show ((a : Int).toNat) = a by omega, show ((a' : Int).toNat) = a' by omega, hnext, hword]
    refine ⟨fun j hj => ?_, ?_, ?_⟩
    · show (upd s.l i _ j).at' = A ∧ upd s'.l i _ j = (upd s.l i _ j).mv A'
      by_cases hji : j = i
      · subst hji
        rw [upd_same, upd_same]
        refine ⟨?_, rfl⟩
        unfold Tk.next
        split
        · exact h1
        · rw [go_at]; exact h1
      · rw [upd_other hji, upd_other hji]; exact h.l j hj
    · show upd s'.f a' _ A' = upd s.f a _ A
      rcases hc with ⟨rfl, rfl⟩ | ⟨rfl, rfl⟩
      · rw [upd_same, upd_same]
      · rw [upd_other (by omega), upd_other (by omega)]; exact h.f0
    · show upd s'.f a' _ (A' + 1) = upd s.f a _ (A + 1)
      rcases hc with ⟨rfl, rfl⟩ | ⟨rfl, rfl⟩
      · rw [upd_other (by omega), upd_other (by omega)]; exact h.f1
      · rw [upd_same, upd_same]
  rcases wh_two (s.l i) A h1 with ⟨q1, q2⟩ | ⟨q1, q2⟩
  · exact key A A' q1 (by rw [h2, q2]) (.inl ⟨rfl, rfl⟩)
  · exact key (A + 1) (A' + 1) (by rw [q1]; omega) (by rw [h2, q2]; omega) (.inr ⟨rfl, rfl⟩)
theorem Twin.left {N A A' : Nat} {s s' : Sy} (h : Twin N A A' s s') : leftN s'.l N = leftN s.l N := leftN_congr fun i hi => by rw [(h.l i hi).2]; rfl
theorem Twin.round {N A A' m m' : Nat} {s s' : Sy} (h : Twin N A A' s s') (hA : A + 1 < m) (hA' : A' + 1 < m') : ∀ k, k ≤ N → Twin N A A' (s.upTo m k) (s'.upTo m' k)
  | 0, _ => h
  | k + 1, hk => (h.round hA hA' k (by omega)).pick hA hA' (by omega)
theorem Twin.count {N A A' m m' : Nat} (hA : A + 1 < m) (hA' : A' + 1 < m') : ∀ (k : Nat) {s s' : Sy}, Twin N A A' s s' → s'.count m' N k = s.count m N k
  | 0, _, _, _ => rfl
  | k + 1, s, s', h => by
    simp only [Sy.count, h.left]
    split
    · rfl
    · have := Twin.count hA hA' k (h.round hA hA' N (Nat.le_refl _))
      unfold Sy.round
      rw [this]
theorem Twin.pickI {N A A' m m' : Nat} {s s' : Sy} (h : Twin N A A' s s') (hA : A + 1 < m) (hA' : A' + 1 < m') (i : Int) : Twin N A A' (s.pickI m N i) (s'.pickI m' N i) := by
  unfold Sy.pickI
  split
  · rename_i hh
    have := isT_yes hh
    exact h.pick hA hA' (by omega)
  · exact h
theorem twin0 (N A A' : Nat) (R : Int) : Twin N A A' (sy0 N A R) (sy0 N A' R) := ⟨fun _ _ => ⟨rfl, rfl⟩, rfl, rfl⟩
end Go.Proofs.YtcjhbmkpfclmfaaDoor
