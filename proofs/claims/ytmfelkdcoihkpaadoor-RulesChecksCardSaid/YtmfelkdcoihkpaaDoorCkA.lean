/-
  The rules over the list of all windows with their places: no word of the program.
-/
import Derived.Test.YtmfelkdcoihkpaaDoorAll
namespace Go.Proofs.YtmfelkdcoihkpaaDoor

def pl (cs : List (List WinA)) (i : Nat) : Nat × Nat := (places cs).getD i (0, 0)
def plW (cs : List (List WinA)) (i : Nat) : WinA := winAt cs (pl cs i).1 (pl cs i).2
def off (cs : List (List WinA)) (c : Nat) : Nat := (placesTo cs c).length
theorem off_succ (cs : List (List WinA)) (c : Nat) : off cs (c + 1) = off cs c + (cs.getD c []).length := by
  unfold off
  rw [placesTo_succ, List.length_append, List.length_map, List.length_range]
theorem off_mono (cs : List (List WinA)) {c d : Nat} (h : c ≤ d) : off cs c ≤ off cs d := by
  induction d with
  | zero => rw [show c = 0 by omega]; exact Nat.le_refl _
  | succ d ih =>
    by_cases e : c = d + 1
    · rw [e]; exact Nat.le_refl _
    · have := ih (by omega)
      rw [off_succ]
      omega
theorem at_pos_to (cs : List (List WinA)) (d c k : Nat) (hc : c < d) (hk : k < (cs.getD c []).length) : off cs c + k < (placesTo cs d).length ∧ (placesTo cs d).getD (off cs c + k) (0, 0) = (c, k) := by
  induction d with
  | zero => omega
  | succ d ih =>
    rw [placesTo_succ, List.length_append, List.length_map, List.length_range]
    by_cases e : c = d
    · subst e
      refine ⟨by unfold off; omega, ?_⟩
      rw [List.getD_eq_getElem?_getD, List.getElem?_append_right (by unfold off; omega)]
      rw [show off cs c + k - (placesTo cs c).length = k by unfold off; omega, List.getElem?_map, List.getElem?_range hk]
      rfl
    · obtain ⟨h1, h2⟩ := ih (by omega)
      refine ⟨by omega, ?_⟩
      rw [List.getD_eq_getElem?_getD, List.getElem?_append_left h1, ← List.getD_eq_getElem?_getD]
      exact h2
theorem at_pos {cs : List (List WinA)} {c k : Nat} (hc : c < cs.length) (hk : k < (cs.getD c []).length) : off cs c + k < (places cs).length ∧ pl cs (off cs c + k) = (c, k) :=
  at_pos_to cs cs.length c k hc hk
theorem pos_of_to (cs : List (List WinA)) (d : Nat) {i : Nat} (h : i < off cs d) : ∃ c k, c < d ∧ k < (cs.getD c []).length ∧ i = off cs c + k := by
  induction d with
  | zero => simp [off, placesTo] at h
  | succ d ih =>
    rw [off_succ] at h
    by_cases e : i < off cs d
    · obtain ⟨c, k, h1, h2, h3⟩ := ih e
      exact ⟨c, k, by omega, h2, h3⟩
    · exact ⟨d, i - off cs d, by omega, by omega, by omega⟩
theorem pos_of {cs : List (List WinA)} {i : Nat} (h : i < (places cs).length) : ∃ c k, c < cs.length ∧ k < (cs.getD c []).length ∧ i = off cs c + k ∧ pl cs i = (c, k) := by
  obtain ⟨c, k, h1, h2, rfl⟩ := pos_of_to cs cs.length (i := i) h
  exact ⟨c, k, h1, h2, rfl, (at_pos h1 h2).2⟩
/-- Of two places of one core the one ahead comes first. -/
theorem pos_lt {cs : List (List WinA)} {i j : Nat} (hj : j < (places cs).length) (h : i < j) : (pl cs i).1 ≤ (pl cs j).1 ∧ ((pl cs i).1 = (pl cs j).1 → (pl cs i).2 < (pl cs j).2) := by
  obtain ⟨c, k, h1, h2, h3, h4⟩ := pos_of (i := i) (cs := cs) (by omega)
  obtain ⟨d, l, g1, g2, g3, g4⟩ := pos_of hj
  rw [h4, g4]
  dsimp only
  have : c ≤ d := by
    rcases Nat.lt_or_ge d c with e | e
    · have := off_mono cs (c := d + 1) (d := c) (by omega)
      rw [off_succ] at this
      omega
    · exact e
  refine ⟨this, ?_⟩
  rintro rfl
  omega
theorem free_of {P : PlanA} {i : Nat} (hi : i < (places P.2.1).length) : freeW P (pl P.2.1 i).1 (pl P.2.1 i).2 = if 0 < i ∧ (pl P.2.1 (i - 1)).1 = (pl P.2.1 i).1 then endW (plW P.2.1 (i - 1)) else 0 := by
  obtain ⟨c, k, h1, h2, h3, h4⟩ := pos_of hi
  rw [h4]
  dsimp only
  unfold freeW plW
  by_cases hk : k = 0
  · rw [if_pos hk, if_neg]
    rintro ⟨g1, g2⟩
    have := pos_lt hi (show i - 1 < i by omega)
    rw [h4] at this
    dsimp only at this
    have := this.2 g2
    omega
  · have hp := (at_pos h1 (show k - 1 < (P.2.1.getD c []).length by omega)).2
    rw [show off P.2.1 c + (k - 1) = i - 1 by omega] at hp
    rw [if_neg hk, if_pos ⟨by omega, by rw [hp]⟩, hp]
theorem placeN_pl (x : Nat × Nat) : placeN x = 256 * (x.1 : Int) + x.2 := rfl
theorem hit_pl {cs : List (List WinA)} {e : Nat × Nat → Int} {i : Nat} (hi : i < (places cs).length) (h : ∀ j, j < i → e (pl cs j) = 0) (hx : e (pl cs i) ≠ 0) : firstP e placeN (places cs) = (e (pl cs i), placeN (pl cs i)) := by
  conv => lhs; rw [split_at (0, 0) hi]
  refine firstP_at (fun y hy => ?_) hx
  obtain ⟨j, hj, rfl⟩ := mem_at (0, 0) hy
  rw [List.length_take] at hj
  rw [take_getD _ (by omega)]
  exact h j (by omega)
theorem none_pl {cs : List (List WinA)} {e : Nat × Nat → Int} (h : ∀ j, j < (places cs).length → e (pl cs j) = 0) : firstP e placeN (places cs) = (0, 0) := by
  refine firstP_none fun y hy => ?_
  obtain ⟨j, hj, rfl⟩ := mem_at (0, 0) hy
  exact h j hj
theorem hit_rg {e : Nat → Int} {n k : Nat} (hk : k < n) (h : ∀ j, j < k → e j = 0) (hx : e k ≠ 0) : firstP e (fun c => (c : Int)) (List.range n) = (e k, (k : Int)) := first_range hk h hx
theorem none_rg {e : Nat → Int} {n : Nat} (h : ∀ j, j < n → e j = 0) : firstP e (fun c => (c : Int)) (List.range n) = (0, 0) := firstP_none fun y hy => h y (List.mem_range.1 hy)

/-! ### gangs -/
theorem gangB_comm (v w : WinA) : gangB v w = gangB w v := by
  unfold gangB
  by_cases h : v.2.2.2 = w.2.2.2
  · rw [h]
  · rw [show (v.2.2.2 == w.2.2.2) = false by simpa using h, show (w.2.2.2 == v.2.2.2) = false by simpa using fun e => h e.symm]
    simp
theorem togB_comm (v w : WinA) : togB v w = togB w v := by
  unfold togB
  rw [gangB_comm v w]
  congr 1
  rw [decide_eq_decide]
  exact ⟨fun h => h.symm, fun h => h.symm⟩
theorem first_flatC {e : WinA → Int} {cs : List (List WinA)} {c a b : Nat} (h1 : c < a) (ha : a < cs.length) (hb : b < (cs.getD a []).length)
    (h : ∀ x y, c < x → x < cs.length → y < (cs.getD x []).length → (x < a ∨ x = a ∧ y < b) → e (winAt cs x y) = 0) (hx : e (winAt cs a b) ≠ 0) : firstE e (cs.drop (c + 1)).flatten = e (winAt cs a b) := by
  have hd := split_at [] (l := cs.drop (c + 1)) (k := a - (c + 1)) (by rw [List.length_drop]; omega)
  rw [drop_getD, show c + 1 + (a - (c + 1)) = a by omega] at hd
  have hw := split_at dW (l := cs.getD a []) hb
  rw [hd, List.flatten_append, List.flatten_cons]
  conv => lhs; rw [hw]
  rw [List.append_assoc, ← List.append_assoc, List.cons_append]
  refine firstE_at (fun z hz => ?_) hx
  rcases List.mem_append.1 hz with hz | hz
  · obtain ⟨ws, hws, hz⟩ := List.mem_flatten.1 hz
    obtain ⟨j, hj, rfl⟩ := mem_at [] hws
    obtain ⟨y, hy, rfl⟩ := mem_at dW hz
    rw [List.length_take, List.length_drop] at hj
    rw [take_getD [] (by omega), drop_getD] at hy ⊢
    exact h (c + 1 + j) y (by omega) (by omega) hy (.inl (by omega))
  · obtain ⟨y, hy, rfl⟩ := mem_at dW hz
    rw [List.length_take] at hy
    rw [take_getD dW (by omega)]
    exact h a y h1 ha (by omega) (.inr ⟨rfl, by omega⟩)
theorem none_flatC {e : WinA → Int} {cs : List (List WinA)} {c : Nat} (h : ∀ x y, c < x → x < cs.length → y < (cs.getD x []).length → e (winAt cs x y) = 0) : firstE e (cs.drop (c + 1)).flatten = 0 := by
  refine firstE_none fun z hz => ?_
  obtain ⟨ws, hws, hz⟩ := List.mem_flatten.1 hz
  obtain ⟨j, hj, rfl⟩ := mem_at [] hws
  obtain ⟨y, hy, rfl⟩ := mem_at dW hz
  rw [List.length_drop] at hj
  rw [drop_getD] at hy ⊢
  exact h (c + 1 + j) y (by omega) (by omega) hy
/-- No window of the same core ahead is of the gang. -/
def NoA (cs : List (List WinA)) (i k : Nat) : Prop := ∀ j, j < k → (pl cs j).1 = (pl cs i).1 → gangB (plW cs j) (plW cs i) = false
/-- No window of a core behind is wrong beside it. -/
def NoB (cs : List (List WinA)) (i k : Nat) : Prop := ∀ j, i < j → j < k → (pl cs j).1 ≠ (pl cs i).1 → twoE (plW cs i) (plW cs j) = 0
theorem beside_hit {P : PlanA} {i k : Nat} (hi : i < (places P.2.1).length) (hk : k < i) (hs : (pl P.2.1 k).1 = (pl P.2.1 i).1) (hg : gangB (plW P.2.1 k) (plW P.2.1 i) = true) : besideE P (pl P.2.1 i) = 46 := by
  unfold besideE
  rw [if_pos]
  rw [List.any_eq_true]
  have hl := (pos_lt hi hk).2 hs
  obtain ⟨c, j, h1, h2, h3, h4⟩ := pos_of (i := k) (cs := P.2.1) (by omega)
  refine ⟨plW P.2.1 k, ?_, hg⟩
  rw [← hs]
  unfold plW winAt
  have : ((P.2.1.getD (pl P.2.1 k).1 []).take (pl P.2.1 i).2).getD (pl P.2.1 k).2 dW = (P.2.1.getD (pl P.2.1 k).1 []).getD (pl P.2.1 k).2 dW := take_getD dW hl
  rw [← this]
  refine getD_mem dW ?_
  rw [List.length_take]
  rw [h4] at hl ⊢
  dsimp only at hl ⊢
  omega
theorem noA_any {P : PlanA} {i : Nat} (hi : i < (places P.2.1).length) (hA : NoA P.2.1 i i) : ((P.2.1.getD (pl P.2.1 i).1 []).take (pl P.2.1 i).2).any (fun v => gangB v (winAt P.2.1 (pl P.2.1 i).1 (pl P.2.1 i).2)) = false := by
  rw [List.any_eq_false]
  intro v hv
  obtain ⟨j, hj, rfl⟩ := mem_at dW hv
  rw [List.length_take] at hj
  rw [take_getD dW (by omega)]
  obtain ⟨c, k, h1, h2, h3, h4⟩ := pos_of hi
  rw [h4] at hj ⊢
  dsimp only at hj ⊢
  have hp := at_pos h1 (show j < (P.2.1.getD c []).length by omega)
  have := hA (off P.2.1 c + j) (by omega) (by rw [hp.2, h4])
  unfold plW at this
  rw [hp.2, h4] at this
  dsimp only at this
  unfold winAt at this ⊢
  rw [this]
  simp
theorem beside_two {P : PlanA} {i k : Nat} (hk : k < (places P.2.1).length) (hik : i < k) (hA : NoA P.2.1 i i) (hB : NoB P.2.1 i k) (hs : (pl P.2.1 k).1 ≠ (pl P.2.1 i).1) (hx : twoE (plW P.2.1 i) (plW P.2.1 k) ≠ 0) : besideE P (pl P.2.1 i) = twoE (plW P.2.1 i) (plW P.2.1 k) := by
  unfold besideE
  rw [if_neg (by rw [noA_any (by omega) hA]; simp)]
  obtain ⟨c, j, h1, h2, h3, h4⟩ := pos_of (i := i) (cs := P.2.1) (by omega)
  obtain ⟨a, b, g1, g2, g3, g4⟩ := pos_of hk
  have hle := (pos_lt hk hik).1
  have e1 : plW P.2.1 i = winAt P.2.1 c j := by unfold plW; rw [h4]
  have e2 : plW P.2.1 k = winAt P.2.1 a b := by unfold plW; rw [g4]
  unfold NoB at hB
  rw [h4, g4] at hs hle
  rw [h4] at hB ⊢
  rw [e1, e2] at hx ⊢
  rw [e1] at hB
  dsimp only at hs hle ⊢
  refine first_flatC (by omega) g1 g2 (fun x y q1 q2 q3 q4 => ?_) hx
  have hp := at_pos q2 q3
  have hlt : off P.2.1 x + y < k := by
    rw [g3]
    rcases q4 with q4 | ⟨rfl, q4⟩
    · have := off_mono P.2.1 (c := x + 1) (d := a) (by omega)
      rw [off_succ] at this
      omega
    · omega
  have hgt : i < off P.2.1 x + y := by
    have := off_mono P.2.1 (c := c + 1) (d := x) (by omega)
    rw [off_succ] at this
    omega
  have := hB _ hgt hlt (by rw [hp.2]; dsimp only; omega)
  rw [show plW P.2.1 (off P.2.1 x + y) = winAt P.2.1 x y by unfold plW; rw [hp.2]] at this
  exact this
theorem beside_none {P : PlanA} {i : Nat} (hi : i < (places P.2.1).length) (hA : NoA P.2.1 i i) (hB : NoB P.2.1 i (places P.2.1).length) : besideE P (pl P.2.1 i) = 0 := by
  unfold besideE
  rw [if_neg (by rw [noA_any hi hA]; simp)]
  obtain ⟨c, j, h1, h2, h3, h4⟩ := pos_of hi
  have e1 : plW P.2.1 i = winAt P.2.1 c j := by unfold plW; rw [h4]
  unfold NoB at hB
  rw [h4] at hB ⊢
  rw [e1] at hB
  dsimp only at hB ⊢
  refine none_flatC fun x y q1 q2 q3 => ?_
  have hp := at_pos q2 q3
  have hgt : i < off P.2.1 x + y := by
    have := off_mono P.2.1 (c := c + 1) (d := x) (by omega)
    rw [off_succ] at this
    omega
  have := hB _ hgt hp.1 (by rw [hp.2]; dsimp only; omega)
  rw [show plW P.2.1 (off P.2.1 x + y) = winAt P.2.1 x y by unfold plW; rw [hp.2]] at this
  exact this

/-! ### pairs -/
def prA (P : PlanA) (i : Nat) : PairA := P.2.2.2.2.getD i dS
def BadP (n : Nat) (x : PairA) : Prop := (n : Int) ≤ x.1 ∨ (n : Int) ≤ x.2 ∨ x.2 ≤ x.1
def NoDup (P : PlanA) (i k : Nat) : Prop := ∀ j, j < k → prA P j ≠ prA P i
def NoC (P : PlanA) (i a : Nat) : Prop := ∀ j, j < a → ∀ b, b < (places P.2.1).length → ¬ ((plW P.2.1 j).2.2.1 = (prA P i).1 ∧ (plW P.2.1 b).2.2.1 = (prA P i).2 ∧ ovB (plW P.2.1 j) (plW P.2.1 b) = true)
def NoD (P : PlanA) (i a b : Nat) : Prop := ∀ j, j < b → ¬ ((plW P.2.1 a).2.2.1 = (prA P i).1 ∧ (plW P.2.1 j).2.2.1 = (prA P i).2 ∧ ovB (plW P.2.1 a) (plW P.2.1 j) = true)
theorem pair_bad {P : PlanA} {i : Nat} (h : BadP P.2.2.1.length (prA P i)) : pairE P i = 48 := by
  unfold pairE
  unfold BadP prA at h
  rw [if_pos]
  omega
theorem pair_dup {P : PlanA} {i k : Nat} (hi : i < P.2.2.2.2.length) (hk : k < i) (h : prA P k = prA P i) : pairE P i = 48 := by
  unfold pairE
  rw [if_pos]
  refine .inr (.inr ?_)
  unfold prA at h
  rw [← h, ← take_getD dS hk]
  refine getD_mem dS ?_
  rw [List.length_take]
  omega
theorem mem_flat {cs : List (List WinA)} {v : WinA} : v ∈ cs.flatten ↔ ∃ j, j < (places cs).length ∧ v = plW cs j := by
  constructor
  · intro h
    obtain ⟨ws, hws, hv⟩ := List.mem_flatten.1 h
    obtain ⟨c, hc, rfl⟩ := mem_at [] hws
    obtain ⟨k, hk, rfl⟩ := mem_at dW hv
    have hp := at_pos hc hk
    exact ⟨_, hp.1, by unfold plW winAt; rw [hp.2]⟩
  · rintro ⟨j, hj, rfl⟩
    obtain ⟨c, k, h1, h2, h3, h4⟩ := pos_of hj
    refine List.mem_flatten.2 ⟨cs.getD c [], getD_mem [] h1, ?_⟩
    unfold plW winAt
    rw [h4]
    exact getD_mem dW h2
theorem mem_served {cs : List (List WinA)} {v : WinA} {p : Int} : v ∈ servedS cs p ↔ ∃ j, j < (places cs).length ∧ v = plW cs j ∧ v.2.2.1 = p := by
  unfold servedS
  rw [List.mem_filter, mem_flat]
  simp only [decide_eq_true_eq]
  constructor
  · rintro ⟨⟨j, h1, h2⟩, h3⟩; exact ⟨j, h1, h2, h3⟩
  · rintro ⟨j, h1, h2, h3⟩; exact ⟨⟨j, h1, h2⟩, h3⟩
theorem pair_ok {P : PlanA} {i : Nat} (h : ¬ BadP P.2.2.1.length (prA P i)) (hd : NoDup P i i) (hi : i < P.2.2.2.2.length) : ¬ ((P.2.2.2.2.getD i dS).2 ≤ (P.2.2.2.2.getD i dS).1 ∨ P.2.2.1.length ≤ (P.2.2.2.2.getD i dS).2 ∨ P.2.2.2.2.getD i dS ∈ P.2.2.2.2.take i) := by
  unfold BadP prA at h
  rintro (q | q | q)
  · omega
  · omega
  · obtain ⟨j, hj, e⟩ := mem_at dS q
    rw [List.length_take] at hj
    rw [take_getD dS (by omega)] at e
    exact hd j (by omega) e.symm
theorem pair_clash {P : PlanA} {i a b : Nat} (h : ¬ BadP P.2.2.1.length (prA P i)) (hd : NoDup P i i) (hi : i < P.2.2.2.2.length) (ha : a < (places P.2.1).length) (hb : b < (places P.2.1).length)
    (hx : (plW P.2.1 a).2.2.1 = (prA P i).1 ∧ (plW P.2.1 b).2.2.1 = (prA P i).2 ∧ ovB (plW P.2.1 a) (plW P.2.1 b) = true) : pairE P i = 49 := by
  unfold pairE
  rw [if_neg (pair_ok h hd hi), if_pos]
  exact List.any_eq_true.2 ⟨_, mem_served.2 ⟨a, ha, rfl, hx.1⟩, List.any_eq_true.2 ⟨_, mem_served.2 ⟨b, hb, rfl, hx.2.1⟩, hx.2.2⟩⟩
theorem pair_none {P : PlanA} {i : Nat} (h : ¬ BadP P.2.2.1.length (prA P i)) (hd : NoDup P i i) (hi : i < P.2.2.2.2.length) (hc : NoC P i (places P.2.1).length) : pairE P i = 0 := by
  unfold pairE
  rw [if_neg (pair_ok h hd hi), if_neg]
  intro q
  obtain ⟨v, hv, q⟩ := List.any_eq_true.1 q
  obtain ⟨w, hw, q⟩ := List.any_eq_true.1 q
  obtain ⟨a, ha, rfl, e1⟩ := mem_served.1 hv
  obtain ⟨b, hb, rfl, e2⟩ := mem_served.1 hw
  exact hc a ha b hb ⟨e1, e2, q⟩

theorem at_rule {P : PlanA} {k : Nat} {x y : Int} (hk : k < 9) (h : Holds_ P k) (e : ruleN P k = (x, y)) (hx : x ≠ 0) : checkS P = (x, y) := by
  rw [checkS_at hk h (by rw [e]; exact hx), e]
theorem holds_succ {P : PlanA} {k : Nat} (h : Holds_ P k) (e : (ruleN P k).1 = 0) : Holds_ P (k + 1) := by
  intro j hj
  by_cases q : j = k
  · subst q; exact e
  · exact h j (by omega)
end Go.Proofs.YtmfelkdcoihkpaaDoor
