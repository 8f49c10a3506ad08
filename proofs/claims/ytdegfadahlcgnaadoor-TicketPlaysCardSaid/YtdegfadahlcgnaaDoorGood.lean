/-
  What is known of takers of one lock, whatever was picked.
-/
import Derived.Test.YtdegfadahlcgnaaDoorTakW
namespace Go.Proofs.YtdegfadahlcgnaaDoor
open Go.RowKit

/-- Takers that whole numbers tell of. -/
def Good (q S : Int) (N : Nat) (s : Sy) : Prop := ∃ g, Rel q N g s ∧ Inv N S g
theorem Good.runI {q S : Int} {N : Nat} {s : Sy} (h : Good q S N s) (hS : S ≤ 1000) (hN : N ≤ 1000) (p : Nat → Int) : ∀ k, Good q S N (s.runI 3 N p k)
  | 0 => h
  | k + 1 => by
    obtain ⟨g, h1, h2⟩ := Good.runI h hS hN p k
    exact ⟨_, h1.pickI h2 hS hN (p k), h2.pickI (p k)⟩
theorem good0 (N : Nat) (T : Nat → Int) (q : Int) (hq : 0 ≤ q ∧ q < 4294967296) : Good q (sumN (tm T) N) N (sy0 T q) := ⟨_, rel0 N T q hq, inv00 N T⟩
/-- How many of the first k are so. -/
def cntN (p : Tk → Bool) (l : Nat → Tk) : Nat → Nat
  | 0 => 0
  | k + 1 => cntN p l k + if p (l k) then 1 else 0
theorem cntN_le (p : Tk → Bool) (l : Nat → Tk) : ∀ k, cntN p l k ≤ k
  | 0 => Nat.le_refl _
  | k + 1 => by have := cntN_le p l k; simp only [cntN]; split <;> omega
theorem cntN_none {p : Tk → Bool} {l : Nat → Tk} : ∀ {k}, (∀ i, i < k → p (l i) = false) → cntN p l k = 0
  | 0, _ => rfl
  | k + 1, h => by simp only [cntN]; rw [cntN_none fun i hi => h i (by omega), h k (by omega)]; rfl
theorem cntN_one {p : Tk → Bool} {l : Nat → Tk} : ∀ {k}, (∀ i j, i < k → j < k → p (l i) = true → p (l j) = true → i = j) → cntN p l k ≤ 1
  | 0, _ => Nat.zero_le _
  | k + 1, h => by
    simp only [cntN]
    cases hp : p (l k)
    · have := cntN_one (p := p) (l := l) (k := k) fun i j hi hj => h i j (by omega) (by omega)
      simpa using this
    · rw [cntN_none (p := p) (l := l) (k := k) fun i hi => ?_]
      · simp
      · cases hi2 : p (l i)
        · rfl
        · have := h i k (by omega) (by omega) hi2 hp; omega
theorem cntN_congr {p : Tk → Bool} {l l' : Nat → Tk} : ∀ {k}, (∀ i, i < k → p (l i) = p (l' i)) → cntN p l k = cntN p l' k
  | 0, _ => rfl
  | k + 1, h => by simp only [cntN]; rw [cntN_congr fun i hi => h i (by omega), h k (by omega)]
theorem cnt_act (l : Nat → Tk) : ∀ k, ((cntN Tk.holds l k + cntN Tk.waits l k : Nat) : Int) = sumN (fun i => (l i).actN) k
  | 0 => rfl
  | k + 1 => by
    have := cnt_act l k
    simp only [cntN, sumN]
    have e : (l k).actN = ((if (l k).holds then 1 else 0 : Nat) : Int) + ((if (l k).waits then 1 else 0 : Nat) : Int) := by
      unfold Tk.actN Tk.holds Tk.waits
      by_cases h1 : (l k).ph = 1
      · simp [h1]
      · by_cases h2 : 2 ≤ (l k).ph ∧ (l k).ph ≤ 4
        · rw [if_pos ⟨by omega, h2.2⟩]; simp [h1, h2.1, h2.2]
        · rw [if_neg (by omega)]
          have : (decide (2 ≤ (l k).ph) && decide ((l k).ph ≤ 4)) = false := by simp; omega
          rw [this]; simp [h1]
    rw [e]
    omega
theorem Rel.holds {q : Int} {N : Nat} {g : Gh} {s : Sy} (h : Rel q N g s) {i : Nat} (hi : i < N) : (s.l i).holds = (g.l i).holds := by unfold Tk.holds; rw [h.ph i hi]
theorem Rel.waits {q : Int} {N : Nat} {g : Gh} {s : Sy} (h : Rel q N g s) {i : Nat} (hi : i < N) : (s.l i).waits = (g.l i).waits := by unfold Tk.waits; rw [h.ph i hi]
theorem holds_ph {t : Tk} (h : t.holds = true) : 2 ≤ t.ph ∧ t.ph ≤ 4 := by unfold Tk.holds at h; simpa using h
theorem holds_no {t : Tk} (h : t.holds = false) : ¬ (2 ≤ t.ph ∧ t.ph ≤ 4) := by unfold Tk.holds at h; simp at h; omega
theorem Good.one {q S : Int} {N : Nat} {s : Sy} (h : Good q S N s) : cntN Tk.holds s.l N ≤ 1 := by
  obtain ⟨g, hR, hI⟩ := h
  refine cntN_one fun i j hi hj h1 h2 => ?_
  rw [hR.holds hi] at h1
  rw [hR.holds hj] at h2
  have := holds_ph h1
  have := holds_ph h2
  exact (hI.alone hi hj (by omega) (by omega) (by omega) (by omega)).symm
theorem Good.diff {q S : Int} {N : Nat} {s : Sy} (h : Good q S N s) (hN : N ≤ 1000) : (s.f 0 - s.f 1) % 4294967296 = ((cntN Tk.holds s.l N + cntN Tk.waits s.l N : Nat) : Int) := by
  obtain ⟨g, hR, hI⟩ := h
  have e1 : cntN Tk.holds s.l N = cntN Tk.holds g.l N := cntN_congr fun i hi => hR.holds hi
  have e2 : cntN Tk.waits s.l N = cntN Tk.waits g.l N := cntN_congr fun i hi => hR.waits hi
  rw [e1, e2, cnt_act, hI.cnt, hR.f0, hR.f1]
  have := hI.aN
  omega
theorem Inv.work_le {N : Nat} {S : Int} {g : Gh} (h : Inv N S g) : g.work N ≤ N + 5 * S := by
  have : ∀ k, k ≤ N → sumN (fun i => (g.l i).work) k ≤ k + 5 * sumN (fun i => (g.l i).left) k := fun k => by
    induction k with
    | zero => intro _; simp [sumN]
    | succ k ih =>
      intro hk
      have := ih (by omega)
      have h0 := h.left0 (i := k) (by omega)
      have hw : (g.l k).work ≤ 1 + 5 * (g.l k).left := by
        unfold Tk.work
        split
        · omega
        · split <;> omega
      simp only [sumN]
      omega
  have h1 := this N (Nat.le_refl _)
  have := h.sum
  have := h.r0
  unfold Gh.work
  omega
theorem Good.ends {q S : Int} {N : Nat} {s : Sy} (h : Good q S N s) (hS : S ≤ 1000) (hN : N ≤ 1000) (k : Nat) (hk : N + 5 * S ≤ k) : leftN (s.rounds 3 N k).l N = 0 ∧ (s.rounds 3 N k).f 2 = S := by
  obtain ⟨g, hR, hI⟩ := h
  obtain ⟨g', h1, h2, h3⟩ := rounds_all hS hN k hR hI
  have hw := hI.work_le
  have hz := h3 (by omega)
  exact ⟨hz, cell_all h1 h2 hz⟩
/-- The relation of the loop of picks. -/
def PickRel (m : Mc) (s : Sy) (c d : Int) (p : Nat → Int) (L : Nat) (w : World) (i : Value) (wr : World) : Prop :=
  ∃ k : Nat, k ≤ L ∧ k ≤ 200 ∧ i = .int .i64 k ∧ StepS m (s.runI m.n m.N p k) c (d * k) w wr
theorem pickRel_next {m : Mc} {s : Sy} {c d c1 c2 : Int} {p : Nat → Int} {k L : Nat} {w wr w2 : World} (hk : k < L) (hk2 : k < 200) (h1 : c ≤ c1 ∧ c1 ≤ c + d * k) (hC : Chg m.own w wr) (h2 : c1 ≤ c2 ∧ c2 ≤ c1 + d)
    (hS : Sys w2 m (s.runI m.n m.N p (k + 1)) c2) (hC2 : Chg m.own wr w2) : PickRel m s c d p L w (.int .i64 ((k : Int) + 1)) w2 := by
  have e : d * ((k + 1 : Nat) : Int) = d * k + d := by rw [Int.natCast_add, Int.mul_add]; simp
  exact ⟨k + 1, by omega, by omega, by go_num, c2, by omega, by rw [e]; omega, hS, hC.trans hC2⟩
theorem round_at (m : Mc) (s : Sy) (c : Int) (M : Nat) (x : Int) (hx : x = M) (w : World) (h : Sys w m s c) (hM : M ≤ 5000) (hN : m.N ≤ 20) (hc : 0 ≤ c) (hc2 : c ≤ 800000) :
    Calls Tryd.prog 25 #[.pointer (some ⟨m.X, 0, none⟩), .int .i64 x] w fun e w' => e = .returned (.int .i64 (s.count m.n m.N M)) ∧ StepS m (s.rounds m.n m.N M) c (M * m.N) w w' := by
  subst hx; exact round_any m s c M w h hM hN hc hc2
/-- The list of takers is there as long as only the machine's blocks change. -/
theorem Made.at {w w' wr : World} {m : Mc} {T : Nat → Int} {n : Nat} {q : Int} {ga : Nat} (h : Made w w' m T n q ga) (hC : Chg m.own w' wr) {i : Nat} (hi : i < m.N) : wr.cell? ⟨ga, i, none⟩ = some (pt (m.B i)) := hC.cell (h.ptr i hi) h.gan
theorem Made.keep {w w1 w' : World} {m : Mc} {T : Nat → Int} {n : Nat} {q : Int} {ga : Nat} (h : Made w w1 m T n q ga) (hB : Below w1.heap.size w1 w') : Made w w' m T n q ga :=
  ⟨h.n3, h.N1, h.sys.keep hB, h.bel.trans (hB.mono h.bel.size), h.own, fun i hi => kept (h.ptr i hi) hB, h.gan, by have := h.gal; have := hB.size; omega⟩
end Go.Proofs.YtdegfadahlcgnaaDoor
