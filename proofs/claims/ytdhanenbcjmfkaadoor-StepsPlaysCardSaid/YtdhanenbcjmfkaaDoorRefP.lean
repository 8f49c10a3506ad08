/-
  The document's answer: a pick.
-/
import Derived.Test.YtdhanenbcjmfkaaDoorRefS
import Derived.Deep.MidRow
namespace Go.Proofs.YtdhanenbcjmfkaaDoor
open Go.RowKit

theorem flat_get {α : Type} (f : α → List Value) (C : Nat) (d : α) (l : List α) (hl : ∀ x ∈ l, (f x).length = C) (i j : Nat) (hi : i < l.length) (hj : j < C) : (l.flatMap f)[i * C + j]? = (f (l.getD i d))[j]? := by
  induction l generalizing i with
  | nil => simp at hi
  | cons x r ih =>
    have hx := hl x List.mem_cons_self
    cases i with
    | zero =>
      rw [List.flatMap_cons, List.getElem?_append_left (by omega)]
      simp
    | succ i =>
      rw [List.flatMap_cons, List.getElem?_append_right (by rw [hx]; simp [Nat.succ_mul]; omega), hx, show (i + 1) * C + j - C = i * C + j by rw [Nat.succ_mul]; omega]
      rw [ih (fun y hy => hl y (List.mem_cons_of_mem _ hy)) i (by simpa using hi)]
      simp
theorem flat_len {α : Type} (f : α → List Value) (C : Nat) (l : List α) (hl : ∀ x, (f x).length = C) : (l.flatMap f).length = l.length * C := by
  induction l with
  | nil => simp
  | cons x r ih => rw [List.flatMap_cons, List.length_append, ih, List.length_cons, hl, Nat.succ_mul]; omega
def dT : Tk := ⟨0, 0, 0, false, 0, false⟩
/-- The first n tasks in cells. -/
def flT (t : Nat → Tk) (n : Nat) : List Value := ((List.range n).map t).flatMap dC
theorem flT_len (t : Nat → Tk) (n : Nat) : (flT t n).length = n * 6 := by unfold flT; rw [flat_len dC 6 _ (fun _ => rfl)]; simp
theorem flT_get (t : Nat → Tk) (n i j : Nat) (hi : i < n) (hj : j < 6) : (flT t n)[i * 6 + j]? = (dC (t i))[j]? := by
  unfold flT
  rw [flat_get dC 6 dT _ (fun _ _ => rfl) i j (by simpa using hi) hj]
  simp [List.getD, hi]
theorem flT_one (t : Nat → Tk) (n : Nat) : ∀ u ∈ flT t n, u.oneCell' = true := by
  intro u hu
  obtain ⟨x, _, hu⟩ := List.mem_flatMap.1 hu
  simp [dC] at hu
  rcases hu with rfl | rfl | rfl | rfl | rfl | rfl <;> rfl
/-- A list of the document's tasks. -/
def WantAt (w : World) (A : Option Addr) (n : Nat) (t : Nat → Tk) : Prop := Arr w A 6 n fun i => dC (t i)
theorem info35 : (Tryd.prog.info? 35).map (fun i => (i.zero, i.size, i.bytes)) = some (some (.agg #[.int .i64 0, .int .i64 0, .int .i64 0, .bool false, .int .u32 0, .bool false]), 6, 40) := by kernel_rfl
/-- Tasks in a row of their own. -/
def OwnT (w : World) (G n : Nat) (t : Nat → Tk) : Prop := G < w.heap.size ∧ (∀ i j, i < n → j < 6 → w.cell? ⟨G, i * 6 + j, none⟩ = (dC (t i))[j]?) ∧ ∀ j, w.frozen? ⟨G, j, none⟩ = false
theorem tasks_own {w : World} {base : Nat} {v : Value} {n : Nat} {t : Nat → Tk} (hn : 0 < n) (h : w.ownsRow base 35 6 v n (flT t n)) : ∃ G cap, v = .slice (some ⟨G, 0, none⟩) n cap ∧ base ≤ G ∧ OwnT w G n t := by
  rcases h.2 with ⟨_, h0⟩ | ⟨g, cap, cur, rfl, hg, hr, _, _, _, _⟩
  · omega
  · refine ⟨g, cap, rfl, hg, ?_, fun i j hi hj => ?_, fun j => World.ownsRow.frozenAt h j⟩
    · rcases Nat.lt_or_ge g w.heap.size with h' | h'
      · exact h'
      · rw [Array.getElem?_eq_none h'] at hr; cases hr
    · rw [World.ownsRow.cellAt h (i * 6 + j) (by omega), flT_get t n i j hi hj]
theorem OwnT.want {w : World} {G n : Nat} {t : Nat → Tk} (h : OwnT w G n t) : WantAt w (some ⟨G, 0, none⟩) n t := fun i hi => ⟨G, 0, rfl, fun j u hu => by
  have hj : j < 6 := by have := (List.getElem?_eq_some_iff.1 hu).1; simpa [dC] using this
  rw [Nat.zero_add, h.2.1 i j hi hj]
  exact hu⟩
theorem OwnT.keep {w w' : World} {G n : Nat} {t : Nat → Tk} (h : OwnT w G n t) (hB : Below w.heap.size w w') : OwnT w' G n t :=
  ⟨Nat.lt_of_lt_of_le h.1 hB.size, fun i j hi hj => by rw [hB.cell (p := ⟨G, i * 6 + j, none⟩) h.1]; exact h.2.1 i j hi hj, fun j => by rw [hB.frozen (p := ⟨G, j, none⟩) h.1]; exact h.2.2 j⟩
theorem chg_one {G : Nat} {w w' : World} {a : Addr} (h : Chg (fun k => k = G) w w') (ha : a.block = G) (v : Value) : Chg (fun k => k = G) w (w'.setCell a v) := h.set ha v
theorem chg_setCells (G : Nat) : ∀ (vs : List Value) (o : Nat) (w : World), Chg (fun k => k = G) w (w.setCells G o vs)
  | [], _, w => Chg.refl w
  | v :: vs, o, w => (chg_one (a := ⟨G, o, none⟩) (Chg.refl w) rfl v).trans (chg_setCells G vs (o + 1) (w.setCell ⟨G, o, none⟩ v))
/-- One task stored. -/
theorem OwnT.store {w : World} {G n : Nat} {t : Nat → Tk} (h : OwnT w G n t) {i : Nat} (hi : i < n) (t' : Tk) : OwnT (w.setCells G (i * 6) (dC t')) G n (upd t i t') ∧ Chg (fun k => k = G) w (w.setCells G (i * 6) (dC t')) := by
  have hth : w.there G (i * 6) (dC t').length := fun j hj => by
    have hj6 : j < 6 := hj
    rw [h.2.1 i j hi hj6]
    exact ⟨by rw [List.getElem?_eq_getElem (by simpa [dC] using hj6)]; rfl, h.2.2 _⟩
  have hC : Chg (fun k => k = G) w (w.setCells G (i * 6) (dC t')) := by
    exact chg_setCells G _ _ w
  refine ⟨⟨Nat.lt_of_lt_of_le h.1 hC.size, fun i2 j hi2 hj => ?_, fun j => ?_⟩, hC⟩
  · by_cases e : i2 = i
    · subst e
      rw [upd_same]
      have := World.rangeAt_setCells_same w G (i2 * 6) (dC t') hth j _ (List.getElem?_eq_getElem (by simpa [dC] using hj))
      rw [this, List.getElem?_eq_getElem]
    · rw [upd_other e]
      have hr : w.rangeAt G (i2 * 6) (dC (t i2)) := fun j' v hv => by
        have hj' : j' < 6 := by have := (List.getElem?_eq_some_iff.1 hv).1; simpa [dC] using this
        rw [h.2.1 i2 j' hi2 hj']; exact hv
      have := World.rangeAt_setCells_apart hr G (i * 6) (dC t') (.inr (by simp [dC]; omega)) j _ (List.getElem?_eq_getElem (by simpa [dC] using hj))
      rw [this, List.getElem?_eq_getElem]
  · simp only [dC, World.setCells]
    rw [World.frozen?_setCell, World.frozen?_setCell, World.frozen?_setCell, World.frozen?_setCell, World.frozen?_setCell, World.frozen?_setCell]
    exact h.2.2 j
/-- The append of the tasks to an empty list. -/
theorem wpList_append_want {ops : Array Oper} {rest : List Oper} {o : Oper} {a : Act} {Q : Exit → Act → World → Prop} (hgd : o.guard = none) (s x : Operand)
    (ho : o.op = .call { callee := .builtin .append, args := #[s, x], argTypes := #[30, 30] }) {w : World} {cp n : Nat} {A : Option Addr} {t : Nat → Tk} (hA : WantAt w A n t) (hn : 0 < n) (hn2 : n ≤ 1000) (H : Nat) (hH : w.heap.size = H)
    (hs : a.eval s = .slice (some ⟨H, 0, none⟩) 0 0) (hx : a.eval x = .slice A n cp)
    (hQ : ∀ G cap' w2, H ≤ G → OwnT w2 G n t → Below w.heap.size w w2 → wpList Tryd.prog ops Q rest (a.put o.dst (.slice (some ⟨G, 0, none⟩) n cap')) w2) :
    wpList Tryd.prog ops Q (o :: rest) a (w.alloc (.cells #[] 35)) := by
  subst hH
  obtain ⟨i0, hi, hz0, hz1, hz2⟩ := info_parts info35
  have hB : Below w.heap.size w (w.alloc (.cells #[] 35)) := (Below.refl _ _).alloc (Nat.le_refl _) _
  have hown : (w.alloc (.cells #[] 35)).ownsRow w.heap.size 35 6 (.slice (some ⟨w.heap.size, 0, none⟩) 0 0) 0 [] := World.ownsRow_lit w #[] 0 (Nat.le_refl _) (by decide) rfl
  obtain ⟨b, o', rfl⟩ := hA.head hn
  refine wpList_append_own _ hgd s x 30 ho w.heap.size 35 i0 _ 6 40 Tryd.underlying30 hi hz0 hz1 hz2 rfl (by decide) _ 0 [] hs hown ⟨b, o', none⟩ n cp (flT t n) hx (flT_len t n) ?_ (flT_one t n) (by unfold maxLen; omega) (by omega) (by simp) ?_
  · intro j u hu
    have hj : j < n * 6 := by rw [← flT_len t n]; exact (List.getElem?_eq_some_iff.1 hu).1
    have hdm := Nat.div_add_mod j 6
    have hm := Nat.mod_lt j (by decide : 0 < 6)
    have hd : j / 6 < n := by omega
    have e : j = (j / 6) * 6 + j % 6 := by omega
    rw [e, flT_get t n (j / 6) (j % 6) hd hm] at hu
    rw [add_off, e, ← Nat.add_assoc]
    exact kept (Arr.at hA hd hu) hB
  · intro v' w' hown' hgrow _
    have hO : w'.ownsRow w.heap.size 35 6 v' n (flT t n) := by simpa using hown'
    obtain ⟨G, cap', rfl, h1, h2⟩ := tasks_own hn hO
    exact hQ G cap' w' h1 h2 (hB.grown hgrow (by simp) (fun k hk => (World.ownsRow.lt hown k hk).1))
/-- What Pick does. -/
def RPickP (n : Nat) (s : Sy) (i : Int) (A0 U0 : Option Addr) (w : World) (e : Ending) (w' : World) : Prop :=
  ∃ A c U d, e = .returned (.tuple #[.slice A n c, .slice U 3 d, .int .i64 (s.err n i)]) ∧ WantAt w' A n (s.pickI 3 n i).l ∧ Us w' U 3 (s.pickI 3 n i).f ∧ Below w.heap.size w w' ∧ Anew A0 w.heap.size A ∧ Anew U0 w.heap.size U
set_option maxHeartbeats 4000000 in
set_option maxRecDepth 100000 in
theorem rpick_no (n : Nat) (s : Sy) (i : Int) (A U : Option Addr) (c d : Nat) (w : World) (hA : WantAt w A n s.l) (hU : Us w U 3 s.f) (_ : n ≤ 1000) (hi : ¬ (0 ≤ i ∧ i < n)) :
    Calls Tryd.prog 13 #[.slice A n c, .slice U 3 d, .int .i64 i] w fun e w' => RPickP n s i A U w e w' := by
  have HE : Hid (s.err n i = 90 ∧ s.pickI 3 n i = s) := Lib.hid (by
    have e : isT n i = false := by unfold isT; exact decide_eq_false hi
    unfold Sy.err Sy.pickI
    rw [e]; exact ⟨rfl, rfl⟩)
  have HA := Lib.hid hA
  have HU := Lib.hid hU
  clear hA hU
  by_cases h1 : i < 0
  · clear hi
    go_enter Tryd.func13, Tryd.ntmps13
    go_wp2_with fail
    exact bodyPost_ret (v := .tuple #[.slice A n c, .slice U 3 d, .int .i64 90]) (by simp [results, Tryd.results13, go_sem]) rfl ⟨A, c, U, d, by rw [HE.out.1], by rw [HE.out.2]; exact HA.out, by rw [HE.out.2]; exact HU.out, Below.refl _ _, .inl rfl, .inl rfl⟩
  · have h2 : (n : Int) ≤ i := by omega
    clear hi
    go_enter Tryd.func13, Tryd.ntmps13
    go_wp2_with fail
    exact bodyPost_ret (v := .tuple #[.slice A n c, .slice U 3 d, .int .i64 90]) (by simp [results, Tryd.results13, go_sem]) rfl ⟨A, c, U, d, by rw [HE.out.1], by rw [HE.out.2]; exact HA.out, by rw [HE.out.2]; exact HU.out, Below.refl _ _, .inl rfl, .inl rfl⟩
set_option maxHeartbeats 4000000 in
set_option maxRecDepth 100000 in
theorem rpick_was (n : Nat) (s : Sy) (i : Nat) (A U : Option Addr) (c d : Nat) (w : World) (hA : WantAt w A n s.l) (hU : Us w U 3 s.f) (_ : n ≤ 1000) (hi : i < n) (hd : (s.l i).done = true) :
    Calls Tryd.prog 13 #[.slice A n c, .slice U 3 d, .int .i64 i] w fun e w' => RPickP n s i A U w e w' := by
  have HE : Hid (s.err n i = 91 ∧ s.pickI 3 n i = s) := Lib.hid (by
    have e : isT n i = true := by unfold isT; exact decide_eq_true (by omega)
    unfold Sy.err
    rw [pickI_nat hi, e, pick_done hd]
    refine ⟨?_, rfl⟩
    show (if (s.l i).done = true then (91 : Int) else 0) = 91
    rw [hd]; rfl)
  obtain ⟨b, o, rfl⟩ := hA.head hi
  have h5 := hA.at (j := 5) hi rfl
  rw [hd] at h5
  have h1 : (0 : Int) ≤ (i : Int) := by omega
  have h2 : (i : Int) < (n : Int) := by omega
  have h3 : ¬ (i : Int) < 0 := by omega
  have h4 : ¬ (n : Int) ≤ (i : Int) := by omega
  have HA := Lib.hid hA
  have HU := Lib.hid hU
  clear hA hU hd
  go_enter Tryd.func13, Tryd.ntmps13
  go_wp2_with fail
  exact bodyPost_ret (v := .tuple #[.slice (some ⟨b, o, none⟩) n c, .slice U 3 d, .int .i64 91]) (by simp [results, Tryd.results13, go_sem]) rfl ⟨_, c, U, d, by rw [HE.out.1], by rw [HE.out.2]; exact HA.out, by rw [HE.out.2]; exact HU.out, Below.refl _ _, .inl rfl, .inl rfl⟩
theorem there_of {w : World} {G n : Nat} {t : Nat → Tk} (h : OwnT w G n t) {i : Nat} (hi : i < n) : w.there G (i * 6) 6 := fun j hj => by
  rw [h.2.1 i j hi hj]
  exact ⟨by rw [List.getElem?_eq_getElem (by simpa [dC] using hj)]; rfl, h.2.2 _⟩
theorem us_chg {w w' : World} {U : Option Addr} {f : Nat → Int} {G : Nat} (h : Us w U 3 f) (hC : Chg (fun k => k = G) w w') (hU : ∀ b o, U = some ⟨b, o, none⟩ → b ≠ G) : Us w' U 3 f := fun i hi => by
  obtain ⟨b, o, e, hc⟩ := h i hi
  exact ⟨b, o, e, hC.cell hc (hU b o e)⟩
theorem rstep_any (t : Tk) (U : Option Addr) (cp : Nat) (f : Nat → Int) (w : World) (hU : Us w U 3 f) (hd : t.done = false) (hl : t.left ≤ 1000) :
    Calls Tryd.prog 27 #[dV t, .slice U 3 cp] w fun e w' => RStepP t f U w e w' := by
  cases ho : t.over 3
  · obtain ⟨h1, h2, h3⟩ := over_no ho
    obtain ⟨K, a, left, has, v, done⟩ := t
    obtain ⟨i, rfl⟩ : ∃ i : Nat, a = i := ⟨a.toNat, by have : 0 ≤ a := h2; omega⟩
    have hd' : done = false := hd
    subst hd'
    have h3' : (i : Int) < 3 := h3
    exact rstep_go K i left v has U cp f w hU h1 hl (by omega)
  · exact rstep_over t U cp f w hU ho
set_option maxHeartbeats 8000000 in
set_option maxRecDepth 100000 in
theorem rpick_go (n : Nat) (s : Sy) (i : Nat) (A U : Option Addr) (c d : Nat) (w : World) (hA : WantAt w A n s.l) (hU : Us w U 3 s.f) (hn : n ≤ 1000) (hi : i < n) (hd : (s.l i).done = false) (hl : (s.l i).left ≤ 1000) :
    Calls Tryd.prog 13 #[.slice A n c, .slice U 3 d, .int .i64 i] w fun e w' => RPickP n s i A U w e w' := by
  have HE : Hid (s.err n i = 0 ∧ s.pickI 3 n i = ⟨upd s.l i ((s.l i).next 3 (s.f (s.l i).at'.toNat)), upd s.f (s.l i).at'.toNat ((s.l i).word 3 (s.f (s.l i).at'.toNat))⟩) := Lib.hid (by
    have e : isT n i = true := by unfold isT; exact decide_eq_true (by omega)
    unfold Sy.err
    rw [pickI_nat hi, e]
    refine ⟨?_, ?_⟩
    · show (if (s.l i).done = true then (91 : Int) else 0) = 0
      rw [hd]; rfl
    · unfold Sy.pick; rw [if_neg (by simp [hd])])
  obtain ⟨b, o, rfl⟩ := hA.head hi
  have h5 := hA.at (j := 5) hi rfl
  rw [hd] at h5
  have h1 : (0 : Int) ≤ (i : Int) := by omega
  have h2 : (i : Int) < (n : Int) := by omega
  have h3 : ¬ (i : Int) < 0 := by omega
  have h4 : ¬ (n : Int) ≤ (i : Int) := by omega
  have HA := Lib.hid hA
  have HU := Lib.hid hU
  have HD := Lib.hid hd
  have HS := Lib.hid (fun W (h : Us W U 3 s.f) => rstep_any (s.l i) U d s.f W h hd hl)
  clear hA hU hd hl
  go_enter Tryd.func13, Tryd.ntmps13
  go_wp2_with (at_builtin; refine wpList_append_want rfl _ _ rfl HA.out (by omega) hn w.heap.size rfl (by rfl) (by rfl) ?_)
  intro G cap' w2 hG hO hB2
  have HO := Lib.hid hO
  have HB2 := Lib.hid hB2
  have k0 := hO.2.1 i 0 hi (by omega)
  have k1 := hO.2.1 i 1 hi (by omega)
  have k2 := hO.2.1 i 2 hi (by omega)
  have k3 := hO.2.1 i 3 hi (by omega)
  have k4 := hO.2.1 i 4 hi (by omega)
  have k5 := hO.2.1 i 5 hi (by omega)
  have HS2 := HS.out w2 (HU.out.keep hB2)
  obtain ⟨t, ht⟩ : ∃ t, t = s.l i := ⟨_, rfl⟩
  rw [← ht] at k0 k1 k2 k3 k4 k5 HS2
  have HT := Lib.hid ht
  obtain ⟨K, a, left, has, v, done⟩ := t
  simp only [dC, List.getElem?_cons_zero, List.getElem?_cons_succ, Nat.add_zero] at k0 k1 k2 k3 k4 k5
  simp only [dV] at HS2
  have HS2 := Lib.hid HS2
  clear hO hB2 ht HS h5
  go_wp2_with fail
  with_reducible refine HS2.out.mono ?_
  rintro e w3 ⟨U', d', he, hU3, hB3, hUn⟩
  have HU3 := Lib.hid hU3
  have HB3 := Lib.hid hB3
  have HO3 := Lib.hid (HO.out.keep hB3)
  clear hU3 hB3
  generalize ht' : Tk.next 3 _ _ = t' at he
  have HT' := Lib.hid ht'
  clear ht'
  obtain ⟨K', a', l', h', v', dn'⟩ := t'
  simp only [dV] at he
  subst he
  have HTH : Hid (w3.there G (i * 6) #[Value.int .i64 K', .int .i64 a', .int .i64 l', .bool h', .int .u32 v', .bool dn'].size) := Lib.hid (there_of HO3.out hi)
  have HINF : Hid ((Tryd.prog.info? 35).map (·.size) = some #[Value.int .i64 K', .int .i64 a', .int .i64 l', .bool h', .int .u32 v', .bool dn'].size) := Lib.hid (by obtain ⟨i0, hi0, _, hz, _⟩ := info_parts info35; rw [hi0]; simp [hz])
  have HONE : Hid (#[Value.int .i64 K', .int .i64 a', .int .i64 l', .bool h', .int .u32 v', .bool dn'].all (·.oneCell') = true) := Lib.hid (by simp [Value.oneCell'])
  clear k0 k1 k2 k3 k4 k5
  go_wp2_with (with_reducible refine wpList_store_mid rfl 35 (.tmp 41) (.tmp 39) rfl G (i * 6) #[.int .i64 K', .int .i64 a', .int .i64 l', .bool h', .int .u32 v', .bool dn'] rfl rfl HTH.out HINF.out HONE.out ?_)
  go_wp2_with fail
  obtain ⟨q1, q2⟩ := HO3.out.store hi ⟨K', a', l', h', v', dn'⟩
  refine bodyPost_ret (v := .tuple #[.slice (some ⟨G, 0, none⟩) n cap', .slice U' 3 d', .int .i64 0]) (by simp [results, Tryd.results13, go_sem]) rfl ⟨some ⟨G, 0, none⟩, cap', U', d', by rw [HE.out.1], ?_, ?_, ?_, .inr ⟨G, rfl, hG⟩, ?_⟩
  · rw [HE.out.2, ← HT.out, HT'.out]
    exact q1.want
  · rw [HE.out.2, ← HT.out]
    refine us_chg HU3.out q2 fun b' o' e => ?_
    rcases hUn with e' | ⟨G', e', hG'⟩
    · obtain ⟨b2, o2, e2, hc2⟩ := HU.out 0 (by omega)
      have := cell_lt hc2
      rw [e', e2] at e
      injection e with e
      injection e with e
      subst e
      have : b2 < w.heap.size := this
      omega
    · rw [e'] at e
      injection e with e
      injection e with e
      have := HO.out.1
      omega
  · exact (HB2.out.trans (HB3.out.mono HB2.out.size)).trans (q2.below (fun k e => by have : k = G := e; omega) (by have := HB2.out.size; have := HB3.out.size; omega))
  · rcases hUn with e' | ⟨G', e', hG'⟩
    · exact .inl e'
    · exact .inr ⟨G', e', by have := HB2.out.size; omega⟩
theorem rpick_any (n : Nat) (s : Sy) (i : Int) (A U : Option Addr) (c d : Nat) (w : World) (hA : WantAt w A n s.l) (hU : Us w U 3 s.f) (hn : n ≤ 1000) (hl : ∀ j, j < n → (s.l j).left ≤ 1000) :
    Calls Tryd.prog 13 #[.slice A n c, .slice U 3 d, .int .i64 i] w fun e w' => RPickP n s i A U w e w' := by
  by_cases hi : 0 ≤ i ∧ i < n
  · obtain ⟨j, rfl⟩ : ∃ j : Nat, i = j := ⟨i.toNat, by omega⟩
    have hj : j < n := by omega
    cases hd : (s.l j).done
    · exact rpick_go n s j A U c d w hA hU hn hj hd (hl j hj)
    · exact rpick_was n s j A U c d w hA hU hn hj hd
  · exact rpick_no n s i A U c d w hA hU hn hi
end Go.Proofs.YtdhanenbcjmfkaaDoor
