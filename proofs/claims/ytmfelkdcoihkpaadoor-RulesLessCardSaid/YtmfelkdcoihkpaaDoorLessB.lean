/-
  Headers of cores in a row; windows' cells; append at a step.
-/
import Derived.Test.YtmfelkdcoihkpaaDoorLess
import Derived.Test.YtmfelkdcoihkpaaDoorAll
import Derived.Deep.DeepCutAuto
import Derived.Deep.CutBlock
namespace Go.Proofs.YtmfelkdcoihkpaaDoor
open Go.RowKit Go.Stop

theorem add_off (b o j : Nat) : (⟨b, o, none⟩ : Addr).add j = ⟨b, o + j, none⟩ := by cases j <;> simp [Addr.add]
theorem step_append_own {P : Program} {w : World} {ops : Array Oper} {o : Oper} {a : Act} {K : Act → World → Prop} {Q : Exit → Act → World → Prop} {E : Prop} (hgd : o.guard = none) (s x : Operand) (t : TypeId)
    (ho : o.op = .call { callee := .builtin .append, args := #[s, x], argTypes := #[t, t] })
    (base : Nat) (e : TypeId) (i : TypeInfo) (z : Value) (size bytes : Nat) (ht : P.underlying t = some (.slice e)) (hi : P.info? e = some i) (hz : i.zero = some z)
    (hsize : i.size = size) (hby : i.bytes = bytes) (hzs : z.cells.size = size) (hsz : 0 < size)
    (v : Value) (n : Nat) (xs : List Value) (hs : a.eval s = v) (hown : w.ownsRow base e size v n xs)
    (ad : Addr) (m c : Nat) (news : List Value) (hx : a.eval x = .slice (some ad) m c) (hl : news.length = m * size) (hnews : ∀ j u, news[j]? = some u → w.cell? (ad.add j) = some u) (h1 : ∀ u ∈ news, u.oneCell' = true)
    (h63 : n + m ≤ maxLen) (hbytes : (n + m) * bytes ≤ 140737488355328) (hbase : base ≤ w.heap.size)
    (h : ∀ v' w', w'.ownsRow base e size v' (n + m) (xs ++ news) → w.grownBy w' v.ownBlock → K (a.put o.dst v') w') :
    if Region.wanted o (yielded ops a.tmps) = true then Oper.wp P o a w K Q else E := by
  have hw : Region.wanted o (yielded ops a.tmps) = true := by simp [Region.wanted, hgd]
  rw [if_pos hw]
  exact wp_append_own w s x t ho base e i z size bytes ht hi hz hsize hby hzs hsz v n xs hs hown ad m c news hx hl hnews h1 h63 hbytes hbase fun v' w' h2 h3 _ => h v' w' h2 h3

/-- Headers of cores in a row that may be written. -/
def Hdr (W : World) (g n : Nat) (F : Nat → Value) : Prop := (∀ i, i < n → W.cell? ⟨g, i, none⟩ = some (F i)) ∧ (∀ i, W.frozen? ⟨g, i, none⟩ = false) ∧ g < W.heap.size
theorem Hdr.keep {W W' : World} {g n : Nat} {F : Nat → Value} (h : Hdr W g n F) (hB : Below W.heap.size W W') : Hdr W' g n F :=
  ⟨fun i hi => kept (h.1 i hi) hB, fun i => by rw [hB.frozen (p := ⟨g, i, none⟩) h.2.2]; exact h.2.1 i, Nat.lt_of_lt_of_le h.2.2 hB.size⟩
theorem hdr_own {w : World} {base n : Nat} {v : Value} {xs : List Value} (hn : 0 < n) (h : w.ownsRow base 43 1 v n xs) (F : Nat → Value) (hF : ∀ i, i < n → xs[i]? = some (F i)) : ∃ g c, v = .slice (some ⟨g, 0, none⟩) n c ∧ base ≤ g ∧ Hdr w g n F := by
  rcases h.2 with ⟨e, e2⟩ | ⟨g, cap, cur, e, hg, hh, _⟩
  · omega
  · refine ⟨g, cap, e, hg, fun i hi => ?_, fun i => frozen_of_row _ _ _ _ _ hh, (Array.getElem?_eq_some_iff.1 hh).1⟩
    have := World.ownsRow.cells h (g := g) (by rw [e]; rfl) i _ (hF i hi)
    rw [add_off, Nat.zero_add] at this
    exact this
theorem flat_win (ws : List WinA) (i j : Nat) (hi : i < ws.length) (hj : j < 4) : (ws.flatMap winV)[i * 4 + j]? = (winV (ws.getD i dW))[j]? := flat_get winV 4 dW ws (fun _ _ => rfl) i j hi hj
theorem flat_win_len (ws : List WinA) : (ws.flatMap winV).length = ws.length * 4 := by
  induction ws with
  | nil => rfl
  | cons x r ih => rw [List.flatMap_cons, List.length_append, ih, List.length_cons]; simp [winV]; omega
theorem flat_win_one (ws : List WinA) : ∀ u ∈ ws.flatMap winV, u.oneCell' = true := by
  intro u hu
  obtain ⟨x, _, hu⟩ := List.mem_flatMap.1 hu
  simp [winV] at hu
  rcases hu with rfl | rfl | rfl | rfl <;> rfl
/-- The cells of some windows, from a place on. -/
theorem wins_news {W : World} {b o : Nat} {ws : List WinA} (h : WinsAt W (some ⟨b, o, none⟩) ws) : ∀ j u, (ws.flatMap winV)[j]? = some u → W.cell? ((⟨b, o, none⟩ : Addr).add j) = some u := by
  intro j u hu
  have hj : j < ws.length * 4 := by rw [← flat_win_len]; exact (List.getElem?_eq_some_iff.1 hu).1
  have e : j = (j / 4) * 4 + j % 4 := by omega
  rw [e, flat_win ws (j / 4) (j % 4) (by omega) (by omega)] at hu
  rw [add_off, e, ← Nat.add_assoc]
  exact Arr.at h (by omega) hu
theorem WinsAt.drop {w : World} {b o : Nat} {ws : List WinA} (h : WinsAt w (some ⟨b, o, none⟩) ws) (i : Nat) : WinsAt w (some ⟨b, o + i * 4, none⟩) (ws.drop i) := by
  intro k hk
  rw [List.length_drop] at hk
  refine ⟨b, o + i * 4, rfl, fun j u hu => ?_⟩
  dsimp only at hu
  rw [drop_getD] at hu
  have := Arr.at h (i := i + k) (by omega) hu
  rw [show o + i * 4 + k * 4 + j = o + (i + k) * 4 + j by rw [Nat.add_mul]; omega]
  exact this
theorem wins_own {w : World} {base : Nat} {v : Value} {ws : List WinA} {n : Nat} (hn : ws.length = n) (h : w.ownsRow base 39 4 v n (ws.flatMap winV)) : ∃ A c, v = .slice A n c ∧ n ≤ c ∧ WinsAt w A ws := by
  subst hn
  obtain ⟨A, c, rfl⟩ := own_form h
  refine ⟨A, c, rfl, ?_, arr_flat h (fun _ => rfl)⟩
  rcases h.2 with ⟨e, e2⟩ | ⟨g, cap, cur, e, _, _, hle, _⟩
  · omega
  · injection e with _ _ e3
    omega
/-- Headers and windows are cores. -/
theorem cores_hdr {W : World} {g : Nat} {cs : List (List WinA)} {Pf : Nat → Option Addr × Nat} (h : Hdr W g cs.length fun i => slV (Pf i) (cs.getD i []).length)
    (h2 : ∀ i, i < cs.length → WinsAt W (Pf i).1 (cs.getD i []) ∧ (cs.getD i []).length ≤ (Pf i).2) : CoresAt W (some ⟨g, 0, none⟩) cs := by
  refine ⟨Pf, fun i hi => ⟨g, 0, rfl, fun j u hu => ?_⟩, h2⟩
  match j, hu with
  | 0, hu =>
    simp at hu
    subst hu
    rw [show 0 + i * 1 + 0 = i by omega]
    simpa using h.1 i hi
  | j + 1, hu => simp at hu


theorem erase_parts {ws : List WinA} {k : Nat} : ws.take k ++ ws.drop (k + 1) = ws.eraseIdx k := (List.eraseIdx_eq_take_drop_succ ws k).symm
theorem erase_len {ws : List WinA} {k : Nat} (h : k < ws.length) : (ws.take k ++ ws.drop (k + 1)).length = ws.length - 1 := by
  rw [List.length_append, List.length_take, List.length_drop]; omega

theorem Hdr.other {W : World} {g n b o : Nat} {F : Nat → Value} {v : Value} (h : Hdr W g n F) (hne : g ≠ b) : Hdr (W.setCell ⟨b, o, none⟩ v) g n F := by
  have e : (W.setCell ⟨b, o, none⟩ v).heap[g]? = W.heap[g]? := Below.heap_setCell _ ⟨b, o, none⟩ _ _ hne
  refine ⟨fun i hi => ?_, fun i => ?_, ?_⟩
  · rw [World.cell?_of_block (a := ⟨g, i, none⟩) e]; exact h.1 i hi
  · rw [World.frozen?_of_block (a := ⟨g, i, none⟩) e]; exact h.2.1 i
  · simpa using h.2.2
theorem Hdr.at {W : World} {g n c : Nat} {F : Nat → Value} {v : Value} (h : Hdr W g n F) (hc : c < n) : Hdr (W.setCell ⟨g, c, none⟩ v) g n (fun i => if i = c then v else F i) := by
  have hb : ∃ cs t fr, W.heap[g]? = some (.cells cs t fr) ∧ cs[c]? = some (F c) := by
    have h1 := h.1 c hc
    unfold World.cell? at h1
    dsimp only at h1
    split at h1
    · exact ⟨_, _, _, by assumption, h1⟩
    · cases h1
  refine ⟨fun i hi => ?_, fun i => ?_, by simpa using h.2.2⟩
  · show _ = some (if i = c then v else F i)
    by_cases e : i = c
    · subst e
      rw [if_pos rfl]
      obtain ⟨cs, t, fr, hh, hcs⟩ := hb
      have hlt := (Array.getElem?_eq_some_iff.1 hcs).1
      simp [World.cell?, World.setCell, Array.getElem?_modify, hh, hlt]
    · rw [if_neg e, World.cell?_setCell_other _ _ _ _ (fun q => by injection q with _ q2 _; omega)]
      exact h.1 i hi
  · obtain ⟨cs, t, fr, hh, hcs⟩ := hb
    have h2 := h.2.1 i
    simp [World.frozen?, World.setCell, Array.getElem?_modify, hh] at h2 ⊢
    exact h2
theorem PB.set1 {W : World} {b n : Nat} {fr : Int} {s1 s2 s3 s4 : Value} {A : Option Addr} {c : Nat} (h : W.heap[b]? = some (.cells #[.int .u16 fr, s1, s2, s3, s4] 28 (0, 0))) :
    (W.setCell ⟨b, 1, none⟩ (.slice A n c)).heap[b]? = some (.cells #[.int .u16 fr, .slice A n c, s2, s3, s4] 28 (0, 0)) := by
  have := heap_setCell_same W b 1 _ 28 (.slice A n c) h
  simpa using this
theorem PB.of_row {W : World} {b : Nat} {P : PlanA} {L : PlanL} (h : W.heap[b]? = some (.cells #[.int .u16 P.1, .slice L.a1 P.2.1.length L.c1, .slice L.a2 P.2.2.1.length L.c2, .slice L.a3 P.2.2.2.1.length L.c3, .slice L.a4 P.2.2.2.2.length L.c4] 28 (0, 0))) : PB W b P L :=
  ⟨by rw [cell_of_row _ _ _ _ _ _ h]; rfl, by rw [cell_of_row _ _ _ _ _ _ h]; rfl, by rw [cell_of_row _ _ _ _ _ _ h]; rfl, by rw [cell_of_row _ _ _ _ _ _ h]; rfl, by rw [cell_of_row _ _ _ _ _ _ h]; rfl⟩

/-- What stands behind the window's removal. -/
def LessC (w3 : World) (P : PlanA) (L : PlanL) (A8 : Option Addr) (cap8 : Nat) (W : World) : Prop :=
  ∃ cs', Sub cs' P.2.1 ∧ CoresAt W A8 cs' ∧ PB W w3.heap.size (P.1, cs', P.2.2.1, P.2.2.2.1, P.2.2.2.2) { L with a1 := A8, c1 := cap8 } ∧ Below w3.heap.size w3 W

end Go.Proofs.YtmfelkdcoihkpaaDoor
