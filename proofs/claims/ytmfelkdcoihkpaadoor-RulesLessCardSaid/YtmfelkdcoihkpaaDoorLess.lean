/-
  A plan that is taken is taken with some windows less, and without its pairs: no word of the program.
-/
import Derived.Test.YtmfelkdcoihkpaaDoorTaken
namespace Go.Proofs.YtmfelkdcoihkpaaDoor

/-- Each core has some of the windows, in order. -/
def Sub (cs' cs : List (List WinA)) : Prop := cs'.length = cs.length ∧ ∀ c, List.Sublist (cs'.getD c []) (cs.getD c [])
theorem getD_get {α : Type} {l : List α} {i : Nat} (d : α) (h : i < l.length) : l.getD i d = l[i] := by
  rw [List.getD_eq_getElem?_getD, List.getElem?_eq_getElem h]; rfl
theorem pw_before {P : PlanA} (h : Holds_ P 9) (hw : WfPlan P) {c : Nat} (hc : c < P.2.1.length) : List.Pairwise (fun v w : WinA => endW v ≤ w.1) (P.2.1.getD c []) := by
  rw [List.pairwise_iff_getElem]
  intro i j hi hj hij
  have := holds_before h hw hc j i hij hj
  unfold winAt at this
  rw [getD_get dW hi, getD_get dW hj] at this
  exact this
theorem pw_gang {P : PlanA} (h : Holds_ P 9) {c : Nat} (hc : c < P.2.1.length) : List.Pairwise (fun v w : WinA => gangB v w = false) (P.2.1.getD c []) := by
  rw [List.pairwise_iff_getElem]
  intro i j hi hj hij
  have := firstP_zero (show (firstP (besideE P) placeN (places P.2.1)).1 = 0 from h 5 (by omega)) (c, j) (mem_places.2 ⟨hc, hj⟩)
  unfold besideE at this
  dsimp only at this
  split at this
  · simp at this
  · rename_i hn
    have hn : (((P.2.1.getD c []).take j).any fun v => gangB v (winAt P.2.1 c j)) = false := by simpa using hn
    rw [List.any_eq_false] at hn
    have hm : (P.2.1.getD c [])[i] ∈ (P.2.1.getD c []).take j := by
      have e : ((P.2.1.getD c []).take j).getD i dW = (P.2.1.getD c []).getD i dW := take_getD dW hij
      rw [← getD_get dW hi, ← e]
      refine getD_mem dW ?_
      rw [List.length_take]
      omega
    have := hn _ hm
    unfold winAt at this
    rw [getD_get dW hj] at this
    simpa using this
theorem sub_mem {cs' cs : List (List WinA)} (hs : Sub cs' cs) {c : Nat} {v : WinA} (h : v ∈ cs'.getD c []) : v ∈ cs.getD c [] := (hs.2 c).mem h
theorem sub_served {cs' cs : List (List WinA)} (hs : Sub cs' cs) {v : WinA} {p : Int} (h : v ∈ servedS cs' p) : v ∈ servedS cs p := by
  unfold servedS at h ⊢
  rw [List.mem_filter] at h ⊢
  refine ⟨?_, h.2⟩
  obtain ⟨ws, hws, hv⟩ := List.mem_flatten.1 h.1
  obtain ⟨c, hc, rfl⟩ := mem_at [] hws
  exact List.mem_flatten.2 ⟨_, getD_mem [] (by rw [← hs.1]; exact hc), sub_mem hs hv⟩
theorem sub_clash {cs' cs : List (List WinA)} (hs : Sub cs' cs) {a b : Int} (h : clashB (servedS cs a) (servedS cs b) = false) : clashB (servedS cs' a) (servedS cs' b) = false := by
  cases hb : clashB (servedS cs' a) (servedS cs' b)
  · rfl
  · unfold clashB at hb
    obtain ⟨v, hv, hb⟩ := List.any_eq_true.1 hb
    obtain ⟨w, hw, hb⟩ := List.any_eq_true.1 hb
    rw [clash_yes (sub_served hs hv) (sub_served hs hw) hb] at h
    cases h
theorem holds_sub {P : PlanA} (h : Holds_ P 9) (hw : WfPlan P) {cs' : List (List WinA)} (hs : Sub cs' P.2.1) {rs : List PairA} (hr : rs = P.2.2.2.2 ∨ rs = []) : Holds_ (P.1, cs', P.2.2.1, P.2.2.2.1, rs) 9 := by
  intro j hj
  match j, hj with
  | 0, _ => exact h 0 (by omega)
  | 1, _ =>
    show (coresR _).1 = 0
    unfold coresR
    dsimp only
    rw [hs.1, if_pos (holds_cores h)]
  | 2, _ => exact h 2 (by omega)
  | 3, _ =>
    show (manyR _).1 = 0
    unfold manyR
    rw [firstP_none]
    intro c hc
    have hc := List.mem_range.1 hc
    dsimp only at hc
    unfold manyE
    dsimp only
    have h1 := (hs.2 c).length_le
    have h2 := firstP_zero (show (firstP (manyE P) (fun c => (c : Int)) (List.range P.2.1.length)).1 = 0 from h 3 (by omega)) c (List.mem_range.2 (by rw [← hs.1]; exact hc))
    unfold manyE at h2
    split at h2
    · rw [if_pos (by omega)]
    · simp at h2
  | 4, _ =>
    show (orderR _).1 = 0
    unfold orderR
    rw [firstP_none]
    rintro ⟨c, i⟩ hx
    obtain ⟨hc, hi⟩ := mem_places.1 hx
    dsimp only at hc hi
    have hc' : c < P.2.1.length := by rw [← hs.1]; exact hc
    have hm : winAt cs' c i ∈ P.2.1.getD c [] := sub_mem hs (getD_mem dW hi)
    obtain ⟨q, hq, e⟩ := mem_at dW hm
    have hp := holds_placed h hc' hq
    change winAt cs' c i = winAt P.2.1 c q at e
    rw [← e] at hp
    obtain ⟨⟨w0, _⟩, _⟩ := hw.2.1 _ (getD_mem [] hc') _ hm
    unfold placedE
    dsimp only
    rw [if_neg, if_pos hp.2.2.2]
    rintro (t | t | t)
    · exact hp.1 t
    · unfold freeW at t
      dsimp only at t
      split at t
      · omega
      · have := List.pairwise_iff_getElem.1 ((pw_before h hw hc').sublist (hs.2 c)) (i - 1) i (by omega) hi (by omega)
        unfold winAt at t
        rw [getD_get dW hi, getD_get dW (show i - 1 < (cs'.getD c []).length by omega)] at t
        omega
    · omega
  | 5, _ =>
    show (gangR _).1 = 0
    unfold gangR
    rw [firstP_none]
    rintro ⟨c, i⟩ hx
    obtain ⟨hc, hi⟩ := mem_places.1 hx
    dsimp only at hc hi
    have hc' : c < P.2.1.length := by rw [← hs.1]; exact hc
    unfold besideE
    dsimp only
    rw [if_neg]
    · refine firstE_none fun v hv => ?_
      obtain ⟨ws, hws, hv⟩ := List.mem_flatten.1 hv
      obtain ⟨d, hd, rfl⟩ := mem_at [] hws
      rw [List.length_drop] at hd
      rw [drop_getD] at hv
      exact holds_two h (show c < c + 1 + d by omega) (by rw [← hs.1]; omega) (sub_mem hs (getD_mem dW hi)) (sub_mem hs hv)
    · have hn : (((cs'.getD c []).take i).any fun v => gangB v (winAt cs' c i)) = false := by
        rw [List.any_eq_false]
        intro v hv
        obtain ⟨q, hq, rfl⟩ := mem_at dW hv
        rw [List.length_take] at hq
        rw [take_getD dW (by omega)]
        have := List.pairwise_iff_getElem.1 ((pw_gang h hc').sublist (hs.2 c)) q i (by omega) hi (by omega)
        unfold winAt
        rw [getD_get dW hi, getD_get dW (show q < (cs'.getD c []).length by omega), this]
        simp
      rw [hn]
      simp
  | 6, _ =>
    show (pairR _).1 = 0
    rcases hr with rfl | rfl
    · unfold pairR
      rw [firstP_none]
      intro i hi
      have hi := List.mem_range.1 hi
      dsimp only at hi
      have h6 := firstP_zero (show (firstP (pairE P) (fun c => (c : Int)) (List.range P.2.2.2.2.length)).1 = 0 from h 6 (by omega)) i (List.mem_range.2 hi)
      unfold pairE at h6 ⊢
      dsimp only
      split at h6
      · omega
      · rename_i hn
        rw [if_neg hn, if_neg]
        rw [sub_clash hs (holds_pair h hi)]
        simp
    · rfl
  | 7, _ => exact h 7 (by omega)
  | 8, _ => exact h 8 (by omega)
theorem sub_set {cs : List (List WinA)} {c : Nat} {l' : List WinA} (h : List.Sublist l' (cs.getD c [])) : Sub (cs.set c l') cs := by
  refine ⟨List.length_set .., fun d => ?_⟩
  rw [List.getD_eq_getElem?_getD, List.getElem?_set]
  by_cases e : c = d
  · subst e
    rw [if_pos rfl]
    split
    · exact h
    · rename_i hn
      rw [List.getD_eq_getElem?_getD, List.getElem?_eq_none (by omega)]
      exact List.Sublist.refl _
  · rw [if_neg e, ← List.getD_eq_getElem?_getD]
    exact List.Sublist.refl _
theorem sub_refl (cs : List (List WinA)) : Sub cs cs := ⟨rfl, fun _ => List.Sublist.refl _⟩
end Go.Proofs.YtmfelkdcoihkpaaDoor
