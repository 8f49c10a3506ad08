/-
  What a pick does to who holds the lock, to the tickets and to the cell; two rows of takers that begin at other tickets.
-/
import Derived.Test.YtdegfadahlcgnaaDoorGood
namespace Go.Proofs.YtdegfadahlcgnaaDoor
open Go.RowKit

/-- How many of the first k numbers are so. -/
def cnt2 (P : Nat → Bool) : Nat → Nat
  | 0 => 0
  | k + 1 => cnt2 P k + if P k then 1 else 0
theorem cnt2_le (P : Nat → Bool) : ∀ k, cnt2 P k ≤ k
  | 0 => Nat.le_refl _
  | k + 1 => by have := cnt2_le P k; simp only [cnt2]; split <;> omega
theorem cnt2_congr {P Q : Nat → Bool} : ∀ {k}, (∀ i, i < k → P i = Q i) → cnt2 P k = cnt2 Q k
  | 0, _ => rfl
  | k + 1, h => by simp only [cnt2]; rw [cnt2_congr fun i hi => h i (by omega), h k (by omega)]
theorem cnt2_none {P : Nat → Bool} : ∀ {k}, (∀ i, i < k → P i = false) → cnt2 P k = 0
  | 0, _ => rfl
  | k + 1, h => by simp only [cnt2]; rw [cnt2_none fun i hi => h i (by omega), h k (by omega)]; rfl
theorem cnt2_one {P : Nat → Bool} {i : Nat} : ∀ {k}, i < k → (∀ j, j < k → j ≠ i → P j = false) → cnt2 P k = if P i then 1 else 0
  | 0, h, _ => absurd h (by omega)
  | k + 1, h, h0 => by
    simp only [cnt2]
    by_cases e : i = k
    · subst e; rw [cnt2_none fun j hj => h0 j (by omega) (by omega)]; omega
    · rw [cnt2_one (i := i) (k := k) (by omega) fun j hj => h0 j (by omega), h0 k (by omega) (fun hh => e hh.symm)]; simp
/-- A truth as a number. -/
def b2i (b : Bool) : Int := if b then 1 else 0
theorem b2i_t : b2i true = 1 := rfl
theorem b2i_f : b2i false = 0 := rfl
theorem cntN_sum (p : Tk → Bool) (l : Nat → Tk) : ∀ k, ((cntN p l k : Nat) : Int) = sumN (fun j => b2i (p (l j))) k
  | 0 => rfl
  | k + 1 => by
    have := cntN_sum p l k
    simp only [cntN, sumN, b2i] at *
    cases p (l k) <;> simp at * <;> omega
theorem cntN_turn (p : Tk → Bool) (l : Nat → Tk) (i N : Nat) (t : Tk) (hi : i < N) : ((cntN p (upd l i t) N : Nat) : Int) = (cntN p l N : Nat) - b2i (p (l i)) + b2i (p t) := by
  rw [cntN_sum, cntN_sum]
  exact sumN_turn (fun x => b2i (p x)) l i N t hi
theorem cntN_pos {p : Tk → Bool} {l : Nat → Tk} : ∀ {k} {i : Nat}, i < k → p (l i) = true → 1 ≤ cntN p l k
  | 0, _, h, _ => absurd h (by omega)
  | k + 1, i, h, hp => by
    simp only [cntN]
    by_cases e : i = k
    · subst e; rw [hp]; simp
    · have := cntN_pos (k := k) (i := i) (by omega) hp; omega
theorem holds_yes {t : Tk} (h : 2 ≤ t.ph) (h2 : t.ph ≤ 4) : t.holds = true := by unfold Tk.holds; simp [h, h2]
theorem holds_not {t : Tk} (h : ¬ (2 ≤ t.ph ∧ t.ph ≤ 4)) : t.holds = false := by
  cases e : t.holds
  · rfl
  · unfold Tk.holds at e; simp at e; exact absurd e h

/-- What a pick changes, over whole numbers. -/
theorem gpick_how {N : Nat} {S : Int} {g : Gh} (h : Inv N S g) {i : Nat} (hi : i < N) : ∃ t a r c, g.pick i = ⟨upd g.l i t, a, r, c⟩ ∧ r + b2i t.holds = g.r + b2i (g.l i).holds + b2i (t.holds && !(g.l i).holds) ∧ r = g.r + b2i ((g.l i).holds && !t.holds) ∧
    ((t.holds && !(g.l i).holds) = true → t.tk = g.r ∧ t.act ∧ cntN Tk.holds g.l N = 0) ∧ (c = g.c ∨ (c = g.c + 1 ∧ (g.l i).holds = true)) := by
  have same : g = ⟨upd g.l i (g.l i), g.a, g.r, g.c⟩ := by rw [upd_self]
  have triv : g.r + b2i (g.l i).holds = g.r + b2i (g.l i).holds + b2i ((g.l i).holds && !(g.l i).holds) ∧ g.r = g.r + b2i ((g.l i).holds && !(g.l i).holds) ∧ (((g.l i).holds && !(g.l i).holds) = true → (g.l i).tk = g.r ∧ (g.l i).act ∧ cntN Tk.holds g.l N = 0) := by
    cases (g.l i).holds <;> simp [b2i]
  cases hd : (g.l i).done
  · rcases cases6 (h.ph i hi) with e | e | e | e | e | e
    · have h1 : (g.l i).holds = false := holds_not (by omega)
      have h2 : Tk.holds { g.l i with tk := g.a, ph := 1 } = false := holds_not (by simp)
      refine ⟨_, _, _, _, gpick0 hd e, ?_, ?_, ?_, .inl rfl⟩ <;> rw [h1, h2] <;> simp [b2i]
    · by_cases hr : g.r = (g.l i).tk
      · have h1 : (g.l i).holds = false := holds_not (by omega)
        have h2 : Tk.holds { g.l i with ph := 2 } = true := holds_yes (by simp) (by simp)
        refine ⟨_, _, _, _, gpick1 hd e hr, ?_, ?_, fun _ => ⟨hr.symm, ⟨by simp, by simp⟩, cntN_none fun j hj => ?_⟩, .inl rfl⟩
        · rw [h1, h2]; simp [b2i]
        · rw [h1, h2]; simp [b2i]
        · cases e3 : (g.l j).holds
          · rfl
          · have hp := holds_ph e3
            have := h.hld j hj hp.1 hp.2
            have := h.one j i hj hi ⟨by omega, hp.2⟩ ⟨by omega, by omega⟩ (by omega)
            subst this; omega
      · exact ⟨_, _, _, _, (gpick1n hd e hr).trans same, triv.1, triv.2.1, triv.2.2, .inl rfl⟩
    · have h1 : (g.l i).holds = true := holds_yes (by omega) (by omega)
      have h2 : Tk.holds { g.l i with ld := g.c, ph := 3 } = true := holds_yes (by simp) (by simp)
      refine ⟨_, _, _, _, gpick2 hd e, ?_, ?_, ?_, .inl rfl⟩ <;> rw [h1, h2] <;> simp [b2i]
    · have h1 : (g.l i).holds = true := holds_yes (by omega) (by omega)
      have h2 : Tk.holds { g.l i with ph := 4 } = true := holds_yes (by simp) (by simp)
      have hc : g.c = g.r := h.c0 fun j hj e4 => by
        have := h.alone hi hj (by omega) (by omega) (by omega) (by omega)
        subst this; omega
      refine ⟨_, _, _, _, gpick3 hd e, ?_, ?_, ?_, .inr ⟨by rw [h.c3 i hi e, hc], h1⟩⟩ <;> rw [h1, h2] <;> simp [b2i]
    · have h1 : (g.l i).holds = true := holds_yes (by omega) (by omega)
      obtain ⟨t, ht⟩ : ∃ t, t = (if (g.l i).left = 1 then { g.l i with left := 0, ph := 5, done := true } else { g.l i with left := (g.l i).left - 1, ph := 0 }) := ⟨_, rfl⟩
      have h2 : t.holds = false := by
        rw [ht]; split
        · exact holds_not (by simp)
        · exact holds_not (by simp)
      have hg := gpick4 hd e
      rw [← ht] at hg
      refine ⟨_, _, _, _, hg, ?_, ?_, ?_, .inl rfl⟩ <;> rw [h1, h2] <;> simp [b2i]
    · have h1 : (g.l i).holds = false := holds_not (by omega)
      have h2 : Tk.holds { g.l i with ph := 5, done := true } = false := holds_not (by simp)
      refine ⟨_, _, _, _, gpick5 hd e, ?_, ?_, ?_, .inl rfl⟩ <;> rw [h1, h2] <;> simp [b2i]
  · exact ⟨_, _, _, _, (gpick_done hd).trans same, triv.1, triv.2.1, triv.2.2, .inl rfl⟩

/-- Newly holds; has just released. -/
def news (s s' : Sy) (j : Nat) : Bool := (s'.l j).holds && !(s.l j).holds
def rels (s s' : Sy) (j : Nat) : Bool := (s.l j).holds && !(s'.l j).holds
/-- The ticket that holds next. -/
def turnS (N : Nat) (s : Sy) : Int := (s.f 1 + (cntN Tk.holds s.l N : Nat)) % 4294967296
/-- How many times the lock was left. -/
def leftS (q : Int) (s : Sy) : Int := (s.f 1 - q) % 4294967296
/-- What a pick does to who holds, to the tickets, to the cell. -/
structure PickO (q : Int) (N : Nat) (i : Int) (s s' : Sy) : Prop where
  tk : ∀ j, j < N → news s s' j = true → (s'.l j).tk = (turnS N s + (cnt2 (news s s') j : Nat)) % 4294967296
  turn : turnS N s' = (turnS N s + (cnt2 (news s s') N : Nat)) % 4294967296
  left : leftS q s' = leftS q s + (cnt2 (rels s s') N : Nat)
  lo : 0 ≤ leftS q s ∧ leftS q s' ≤ s'.f 2 ∧ s'.f 2 ≤ leftS q s' + 1 ∧ s'.f 2 ≤ 1001 ∧ 0 ≤ s.f 2
  hi : cntN Tk.holds s'.l N = 0 → s'.f 2 = leftS q s'
  cell : s'.f 2 = s.f 2 ∨ (s'.f 2 = s.f 2 + 1 ∧ 0 ≤ i ∧ i < N ∧ (s.l i.toNat).holds = true)
theorem Rel.leftS {q : Int} {N : Nat} {S : Int} {g : Gh} {s : Sy} (h : Rel q N g s) (hI : Inv N S g) (hS : S ≤ 1000) : leftS q s = g.r := by
  unfold Go.Proofs.YtdegfadahlcgnaaDoor.leftS
  rw [h.f1]
  have := hI.r0
  have := hI.rS
  omega
theorem Rel.turnS {q : Int} {N : Nat} {g : Gh} {s : Sy} (h : Rel q N g s) : turnS N s = (q + (g.r + (cntN Tk.holds g.l N : Nat))) % 4294967296 := by
  unfold Go.Proofs.YtdegfadahlcgnaaDoor.turnS
  rw [h.f1, cntN_congr (l' := g.l) fun i hi => h.holds hi]
  omega
theorem Inv.cell {N : Nat} {S : Int} {g : Gh} (h : Inv N S g) : g.r ≤ g.c ∧ g.c ≤ g.r + 1 ∧ (cntN Tk.holds g.l N = 0 → g.c = g.r) := by
  by_cases he : ∃ i, i < N ∧ (g.l i).ph = 4
  · obtain ⟨i, hi, e⟩ := he
    have := h.c4 i hi e
    have := cntN_pos (p := Tk.holds) (l := g.l) hi (holds_yes (by omega) (by omega))
    exact ⟨by omega, by omega, fun _ => by omega⟩
  · have := h.c0 fun i hi e => he ⟨i, hi, e⟩
    exact ⟨by omega, by omega, fun _ => this⟩
theorem Good.pickO {q S : Int} {N : Nat} {s : Sy} (h : Good q S N s) (hS : S ≤ 1000) (hN : N ≤ 1000) (i : Int) : PickO q N i s (s.pickI 3 N i) := by
  obtain ⟨g, hR, hI⟩ := h
  have hR' := hR.pickI hI hS hN i
  have hI' := hI.pickI i
  have hn : ∀ j, j < N → news s (s.pickI 3 N i) j = (((g.pickI N i).l j).holds && !(g.l j).holds) := fun j hj => by unfold news; rw [hR.holds hj, hR'.holds hj]
  have he : ∀ j, j < N → rels s (s.pickI 3 N i) j = ((g.l j).holds && !((g.pickI N i).l j).holds) := fun j hj => by unfold rels; rw [hR.holds hj, hR'.holds hj]
  have hlo := hI.cell
  have hlo' := hI'.cell
  have hrS := hI'.rS
  have hr0 := hI.r0
  have hcn : cntN Tk.holds (s.pickI 3 N i).l N = cntN Tk.holds (g.pickI N i).l N := cntN_congr fun j hj => hR'.holds hj
  have hle : ∀ {j}, j ≤ N → ∀ k, k < j → news s (s.pickI 3 N i) k = (((g.pickI N i).l k).holds && !(g.l k).holds) := fun hj k hk => hn k (by omega)
  have base : 0 ≤ Go.Proofs.YtdegfadahlcgnaaDoor.leftS q s ∧ Go.Proofs.YtdegfadahlcgnaaDoor.leftS q (s.pickI 3 N i) ≤ (s.pickI 3 N i).f 2 ∧ (s.pickI 3 N i).f 2 ≤ Go.Proofs.YtdegfadahlcgnaaDoor.leftS q (s.pickI 3 N i) + 1 ∧ (s.pickI 3 N i).f 2 ≤ 1001 ∧ 0 ≤ s.f 2 := by
    rw [hR.leftS hI hS, hR'.leftS hI' hS, hR'.f2, hR.f2]
    omega
  have basehi : cntN Tk.holds (s.pickI 3 N i).l N = 0 → (s.pickI 3 N i).f 2 = Go.Proofs.YtdegfadahlcgnaaDoor.leftS q (s.pickI 3 N i) := fun h0 => by
    rw [hR'.leftS hI' hS, hR'.f2]
    exact hlo'.2.2 (by rw [← hcn]; exact h0)
  by_cases hT : isT N i = true
  · have hi := isT_yes hT
    have hi2 : i.toNat < N := by omega
    obtain ⟨t, a, r, c, hg, e1, e2, e3, e4⟩ := gpick_how hI hi2
    have hgI : g.pickI N i = ⟨upd g.l i.toNat t, a, r, c⟩ := by unfold Gh.pickI; rw [if_pos hT]; exact hg
    have hlj : ∀ j, j ≠ i.toNat → (g.pickI N i).l j = g.l j := fun j hj => by rw [hgI]; exact upd_other hj
    have hli : (g.pickI N i).l i.toNat = t := by rw [hgI]; exact upd_same
    have hnj : ∀ j, j < N → j ≠ i.toNat → news s (s.pickI 3 N i) j = false := fun j hj hne => by rw [hn j hj, hlj j hne]; simp
    have hej : ∀ j, j < N → j ≠ i.toNat → rels s (s.pickI 3 N i) j = false := fun j hj hne => by rw [he j hj, hlj j hne]; simp
    have hni : news s (s.pickI 3 N i) i.toNat = (t.holds && !(g.l i.toNat).holds) := by rw [hn _ hi2, hli]
    have hei : rels s (s.pickI 3 N i) i.toNat = ((g.l i.toNat).holds && !t.holds) := by rw [he _ hi2, hli]
    have hct := cntN_turn Tk.holds g.l i.toNat N t hi2
    refine ⟨fun j hj hh => ?_, ?_, ?_, base, basehi, ?_⟩
    · have : j = i.toNat := by
        by_cases e : j = i.toNat
        · exact e
        · rw [hnj j hj e] at hh; cases hh
      subst this
      rw [hni] at hh
      obtain ⟨q1, q2, q3⟩ := e3 hh
      rw [cnt2_none fun k hk => hnj k (by omega) (by omega), hR'.tk _ hi2 (by rw [hli]; exact q2), hli, q1, hR.turnS, q3]
      omega
    · rw [cnt2_one hi2 fun j hj hne => hnj j hj hne, hni, hR.turnS, hR'.turnS, hgI]
      show (q + (r + (cntN Tk.holds (upd g.l i.toNat t) N : Nat))) % 4294967296 = _
      rw [hct]
      have : ((if (t.holds && !(g.l i.toNat).holds) = true then 1 else 0 : Nat) : Int) = b2i (t.holds && !(g.l i.toNat).holds) := by unfold b2i; split <;> rfl
      rw [this]
      omega
    · rw [cnt2_one hi2 fun j hj hne => hej j hj hne, hei, hR.leftS hI hS, hR'.leftS hI' hS, hgI]
      show r = _
      rw [e2]
      unfold b2i
      split <;> rfl
    · rw [hR.f2, hR'.f2, hgI]
      rcases e4 with e4 | ⟨e4, e5⟩
      · exact .inl e4
      · exact .inr ⟨e4, hi.1, hi.2, by rw [hR.holds hi2]; exact e5⟩
  · have e1 : s.pickI 3 N i = s := by unfold Sy.pickI; rw [if_neg hT]
    rw [e1] at base basehi ⊢
    have hnn : ∀ j, news s s j = false := fun j => by unfold news; simp
    have hee : ∀ j, rels s s j = false := fun j => by unfold rels; simp
    refine ⟨fun j _ hh => by (rw [hnn] at hh; exact absurd hh (by decide)), ?_, ?_, base, basehi, .inl rfl⟩
    · rw [cnt2_none fun j _ => hnn j]; unfold Go.Proofs.YtdegfadahlcgnaaDoor.turnS; omega
    · rw [cnt2_none fun j _ => hee j]; omega

/-- Two rows of takers that whole numbers tell of alike. -/
def Both (q q' S : Int) (N : Nat) (s s' : Sy) : Prop := ∃ g, Rel q N g s ∧ Rel q' N g s' ∧ Inv N S g
theorem Both.pickI {q q' S : Int} {N : Nat} {s s' : Sy} (h : Both q q' S N s s') (hS : S ≤ 1000) (hN : N ≤ 1000) (i : Int) : Both q q' S N (s.pickI 3 N i) (s'.pickI 3 N i) := by
  obtain ⟨g, h1, h2, h3⟩ := h
  exact ⟨_, h1.pickI h3 hS hN i, h2.pickI h3 hS hN i, h3.pickI i⟩
/-- What two such rows tell. -/
structure SameO (q q' : Int) (N : Nat) (s s' : Sy) : Prop where
  err : ∀ i, s.err N i = s'.err N i
  cell : s.f 2 = s'.f 2
  left : leftN s.l N = leftN s'.l N
  holds : ∀ j, j < N → (s.l j).holds = (s'.l j).holds
  waits : ∀ j, j < N → (s.l j).waits = (s'.l j).waits
  lefts : ∀ j, j < N → (s.l j).left = (s'.l j).left
  tk : ∀ j, j < N → (s.l j).waits = true → ((s.l j).tk - q) % 4294967296 = ((s'.l j).tk - q') % 4294967296
theorem Both.same {q q' S : Int} {N : Nat} {s s' : Sy} (h : Both q q' S N s s') : SameO q q' N s s' := by
  obtain ⟨g, h1, h2, h3⟩ := h
  refine ⟨fun i => h1.err h2 i, by rw [h1.f2, h2.f2], by rw [h1.leftN, h2.leftN], fun j hj => by rw [h1.holds hj, h2.holds hj], fun j hj => by rw [h1.waits hj, h2.waits hj], fun j hj => by rw [h1.left j hj, h2.left j hj], fun j hj hw => ?_⟩
  have hw' : (g.l j).ph = 1 := by
    rw [h1.waits hj] at hw
    unfold Tk.waits at hw
    exact of_decide_eq_true hw
  have ha : (g.l j).act := ⟨by omega, by omega⟩
  rw [h1.tk j hj ha, h2.tk j hj ha]
  omega
end Go.Proofs.YtdegfadahlcgnaaDoor
