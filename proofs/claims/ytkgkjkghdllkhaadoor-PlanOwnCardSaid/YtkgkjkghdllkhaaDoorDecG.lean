/-
  A plan, as the reader of plans reads it; what is read lies in memory of the call's own.
-/
import Derived.Test.YtkgkjkghdllkhaaDoorDecF
import Derived.Test.YtkgkjkghdllkhaaDoorEnc
namespace Go.Proofs.YtkgkjkghdllkhaaDoor
open Go.RowKit

theorem OwnC.map {w w' : World} {base : Nat} {v : Value} {cs : List (List WinA)} (h : OwnC w base v cs) (f : ∀ E C v n xs, E ≠ 28 → w.ownsRow base E C v n xs → w'.ownsRow base E C v n xs) : OwnC w' base v cs := by
  obtain ⟨vs, h1, h2, h3⟩ := h
  exact ⟨vs, h1, f _ _ _ _ _ (by decide) h2, fun i hi => f _ _ _ _ _ (by decide) (h3 i hi)⟩
theorem OwnP.map {w w' : World} {base : Nat} {v : Value} {ps : List PartA} (h : OwnP w base v ps) (f : ∀ E C v n xs, E ≠ 28 → w.ownsRow base E C v n xs → w'.ownsRow base E C v n xs) : OwnP w' base v ps := by
  obtain ⟨vs, h1, h2, h3⟩ := h
  exact ⟨vs, h1, f _ _ _ _ _ (by decide) h2, fun i hi => ⟨f _ _ _ _ _ (by decide) (h3 i hi).1, f _ _ _ _ _ (by decide) (h3 i hi).2⟩⟩
theorem OwnC.low {w : World} {base base' : Nat} {v : Value} {cs : List (List WinA)} (h : OwnC w base v cs) (hb : base' ≤ base) : OwnC w base' v cs := by
  obtain ⟨vs, h1, h2, h3⟩ := h
  exact ⟨vs, h1, own_base h2 hb, fun i hi => own_base (h3 i hi) hb⟩
theorem OwnP.low {w : World} {base base' : Nat} {v : Value} {ps : List PartA} (h : OwnP w base v ps) (hb : base' ≤ base) : OwnP w base' v ps := by
  obtain ⟨vs, h1, h2, h3⟩ := h
  exact ⟨vs, h1, own_base h2 hb, fun i hi => ⟨own_base (h3 i hi).1 hb, own_base (h3 i hi).2 hb⟩⟩
/-- A plan in memory of the call's own. -/
structure PlanOwn (w : World) (base : Nat) (P : PlanA) (L : PlanL) : Prop where
  cores : OwnC w base (.slice L.a1 P.2.1.length L.c1) P.2.1
  parts : OwnP w base (.slice L.a2 P.2.2.1.length L.c2) P.2.2.1
  chans : Own_chan w base (.slice L.a3 P.2.2.2.1.length L.c3) P.2.2.2.1
  pairs : Own_pair w base (.slice L.a4 P.2.2.2.2.length L.c4) P.2.2.2.2
theorem PlanOwn.map {w w' : World} {base : Nat} {P : PlanA} {L : PlanL} (h : PlanOwn w base P L) (f : ∀ E C v n xs, E ≠ 28 → w.ownsRow base E C v n xs → w'.ownsRow base E C v n xs) : PlanOwn w' base P L :=
  ⟨h.cores.map f, h.parts.map f, f _ _ _ _ _ (by decide) h.chans, f _ _ _ _ _ (by decide) h.pairs⟩
theorem own_set5 {w' : World} {base E C n : Nat} {v : Value} {xs : List Value} {h t : Nat} {cs : Array Value} {u0 u1 u2 u3 u4 : Value} (ho : w'.ownsRow base E C v n xs) (hr : w'.heap[h]? = some (.cells cs t (0, 0))) (hne : E ≠ t) :
    (((((w'.setCell ⟨h, 0, none⟩ u0).setCell ⟨h, 1, none⟩ u1).setCell ⟨h, 2, none⟩ u2).setCell ⟨h, 3, none⟩ u3).setCell ⟨h, 4, none⟩ u4).ownsRow base E C v n xs := by
  obtain ⟨_, r1⟩ := row_set (i := 0) (u := u0) hr
  obtain ⟨_, r2⟩ := row_set (i := 1) (u := u1) r1
  obtain ⟨_, r3⟩ := row_set (i := 2) (u := u2) r2
  obtain ⟨_, r4⟩ := row_set (i := 3) (u := u3) r3
  exact Fin.own (Fin.own (Fin.own (Fin.own (Fin.own ho hr hne) r1 hne) r2 hne) r3 hne) r4 hne

section
variable {w : World} {g b cap : Nat} {s : ByteArray} {σ : St}
theorem Mid.begin (h : RdS w g b cap s σ) (cs : Array Value) (t : Nat) : Mid w ((w.alloc (.cells #[gp g] 81)).alloc (.cells cs t)) g b cap s σ w.heap.size cs t :=
  ⟨(h.alloc _).alloc _, only_below (((Below.refl _ _).alloc (Nat.le_refl _) _).alloc (by simp) _) _, h.glt, (heap_alloc_old _ _ (by simp)).trans (heap_alloc_new _ _), by
    have := heap_alloc_new (w.alloc (.cells #[gp g] 81)) (.cells cs t)
    rw [show (w.alloc (.cells #[gp g] 81)).heap.size = w.heap.size + 1 by simp] at this
    exact this⟩
theorem Mid.drew {w' : World} {h t : Nat} {cs : Array Value} (m : Mid w w' g b cap s σ h cs t) : Mid w w'.drew g b cap s σ h cs t :=
  ⟨m.rd.drew, only_drewN m.grown 1, m.ne, m.row, m.res⟩
theorem i64w {x : Int} (h0 : 0 ≤ x) (h1 : x ≤ 65535) : IntKind.i64.wrap x = x := IntWalk.i64_in _ (by omega)
theorem list_core_gen (n : Int) (hn0 : 0 ≤ n) (hn : n ≤ 65535) (h : RdS w g b cap s σ) :
    Calls Tryd.prog 62 #[.int .i64 (IntKind.i64.wrap n), .func (.func 63) #[.agg #[gp g]] #[]] w fun e w' => ∃ xs σ' A n' c, rep (dCore s) n.toNat σ = (xs, σ') ∧ n' = xs.length ∧ e = .returned (.slice A n' c) ∧ OwnC w' w.heap.size (.slice A xs.length c) xs ∧ RdS w' g b cap s σ' ∧ w.grownBy w' (some g) := by
  rw [i64w hn0 hn]
  exact (list_core n hn0 hn h).mono fun _ _ ⟨v, he, hO, hR, hG⟩ => by
    obtain ⟨vs, h1, h2, h3⟩ := hO
    obtain ⟨A, c, rfl, _⟩ := own_form h2
    exact ⟨_, _, A, _, c, rfl, rfl, he, ⟨vs, h1, h2, h3⟩, hR, hG⟩
theorem list_part_gen (n : Int) (hn0 : 0 ≤ n) (hn : n ≤ 65535) (h : RdS w g b cap s σ) :
    Calls Tryd.prog 64 #[.int .i64 (IntKind.i64.wrap n), .func (.func 65) #[.agg #[gp g]] #[]] w fun e w' => ∃ xs σ' A n' c, rep (dPart s) n.toNat σ = (xs, σ') ∧ n' = xs.length ∧ e = .returned (.slice A n' c) ∧ OwnP w' w.heap.size (.slice A xs.length c) xs ∧ RdS w' g b cap s σ' ∧ w.grownBy w' (some g) := by
  rw [i64w hn0 hn]
  exact (list_part n hn0 hn h).mono fun _ _ ⟨v, he, hO, hR, hG⟩ => by
    obtain ⟨vs, h1, h2, h3⟩ := hO
    obtain ⟨A, c, rfl, _⟩ := own_form h2
    exact ⟨_, _, A, _, c, rfl, rfl, he, ⟨vs, h1, h2, h3⟩, hR, hG⟩
theorem list_chan_gen (n : Int) (hn0 : 0 ≤ n) (hn : n ≤ 65535) (h : RdS w g b cap s σ) :
    Calls Tryd.prog 66 #[.int .i64 (IntKind.i64.wrap n), .func (.func 67) #[.agg #[gp g]] #[]] w fun e w' => ∃ xs σ' A n' c, rep (dChan s) n.toNat σ = (xs, σ') ∧ n' = xs.length ∧ e = .returned (.slice A n' c) ∧ Own_chan w' w.heap.size (.slice A xs.length c) xs ∧ RdS w' g b cap s σ' ∧ w.grownBy w' (some g) := by
  rw [i64w hn0 hn]
  exact (list_chan n hn0 hn h).mono fun _ _ ⟨v, he, hO, hR, hG⟩ => by
    obtain ⟨A, c, rfl, _⟩ := own_form hO
    exact ⟨_, _, A, _, c, rfl, rfl, he, hO, hR, hG⟩
theorem list_pair_gen (n : Int) (hn0 : 0 ≤ n) (hn : n ≤ 65535) (h : RdS w g b cap s σ) :
    Calls Tryd.prog 68 #[.int .i64 (IntKind.i64.wrap n), .func (.func 69) #[.agg #[gp g]] #[]] w fun e w' => ∃ xs σ' A n' c, rep (dPair s) n.toNat σ = (xs, σ') ∧ n' = xs.length ∧ e = .returned (.slice A n' c) ∧ Own_pair w' w.heap.size (.slice A xs.length c) xs ∧ RdS w' g b cap s σ' ∧ w.grownBy w' (some g) := by
  rw [i64w hn0 hn]
  exact (list_pair n hn0 hn h).mono fun _ _ ⟨v, he, hO, hR, hG⟩ => by
    obtain ⟨A, c, rfl, _⟩ := own_form hO
    exact ⟨_, _, A, _, c, rfl, rfl, he, hO, hR, hG⟩

theorem keep5 {w1 : World} {n : Nat} {v u0 u1 u2 u3 u4 : Value} (h : w1.cell? ⟨n, 0, none⟩ = some v) :
    (((((w1.setCell ⟨n + 1, 0, none⟩ u0).setCell ⟨n + 1, 1, none⟩ u1).setCell ⟨n + 1, 2, none⟩ u2).setCell ⟨n + 1, 3, none⟩ u3).setCell ⟨n + 1, 4, none⟩ u4).cell? ⟨n, 0, none⟩ = some v := by
  have hne : ∀ j, (⟨n + 1, j, none⟩ : Addr) ≠ ⟨n, 0, none⟩ := fun j e => by injection e; omega
  rw [World.cell?_setCell_other _ _ _ _ (hne 4), World.cell?_setCell_other _ _ _ _ (hne 3), World.cell?_setCell_other _ _ _ _ (hne 2), World.cell?_setCell_other _ _ _ _ (hne 1), World.cell?_setCell_other _ _ _ _ (hne 0)]
  exact h
/-- What plan answers. -/
def PlanPost (w : World) (g b cap : Nat) (s : ByteArray) (r : PlanA × St) (e : Ending) (w' : World) : Prop :=
  ∃ L : PlanL, e = .returned (planV r.1 L) ∧ PlanOwn w' w.heap.size r.1 L ∧ RdS w' g b cap s r.2 ∧ w.grownBy w' (some g)
set_option maxHeartbeats 8000000 in
set_option maxRecDepth 100000 in
theorem plan_any (h : RdS w g b cap s σ) :
    Calls Tryd.prog 34 #[.agg #[gp g]] w fun e w' => PlanPost w g b cap s (dPlan s σ) e w' := by
  have HM := Lib.hid (Mid.begin h #[.int .u16 0, .slice none 0 0, .slice none 0 0, .slice none 0 0, .slice none 0 0] 28)
  have HG := Lib.hid h.glt
  have HB := Lib.hid (Rd.lt h)
  have hmf : ∀ (fn : Fn) (first cap : Array Value) (w : World), (Instr.makeFunc fn first cap).run Tryd.prog w = .ok (.func fn first cap) w := fun _ _ _ _ => rfl
  obtain ⟨r, hr⟩ : ∃ r, r = dPlan s σ := ⟨_, rfl⟩
  have HC := Lib.hid hr
  rw [← hr]
  clear h hr
  unfold dPlan at HC
  go_enter Tryd.func34, Tryd.ntmps34
  go_wp2_with fail
  refine (sixteen_gen HM.out.rd).mono ?_
  rintro e w1 ⟨x0, σ', hd, ⟨hy1, hy2⟩, rfl, hR, hO⟩
  have hM := HM.out.step hR hO
  have hC := step_eq HC.out hd
  clear HM HC hR hO hd
  have HM := Lib.hid hM.drew
  have HC := Lib.hid hC
  have cc := (box1 hM.row).2
  clear hM hC
  go_wp2_with fail
  go_region_held3 (fun w' => w'.cell? ⟨w.heap.size, 0, none⟩ = some (gp g)) (go_keep)
    (first
      | (go_at_call 61; refine (eight_gen HM.out.rd).mono ?_; rintro e w1 ⟨x, σ', hd, ⟨hx1, hx2⟩, rfl, hR, hO⟩
         have hM := HM.out.step hR hO
         have hC := step_eq HC.out hd
         clear HM HC hR hO hd
         have HM := Lib.hid hM
         have HC := Lib.hid hC
         have cc := (box1 hM.row).2
         clear hM hC))
  have HM' := Lib.hid HM.out.drew
  clear HM
  have HM := HM'
  clear HM'
  go_wp2_with fail
  have cc := (box1 HM.out.row).2
  refine wp_region_held_drew (S := fun w' => w'.cell? ⟨w.heap.size, 0, none⟩ = some (gp g)) (by kernel_rfl) cc (fun hHeld => ?_)
  refine wpAnyH_take (i := 0) (v := ?_) rfl (by kernel_rfl) (by kernel_rfl) (by kernel_rfl) (fun _ _ _ h => h) (Or.inl ⟨by rfl, ?_⟩) (by assumption) ?_
  rotate_left
  · intro w0 hS0; (try dsimp only at hS0); go_simp; try with_reducible rfl
  try go_simp
  refine wpAnyH_take (i := 1) (v := ?_) rfl (by kernel_rfl) (by kernel_rfl) (by kernel_rfl) (fun _ _ _ h => h) (Or.inl ⟨by rfl, ?_⟩) (by assumption) ?_
  rotate_left
  · intro w0 hS0; (try dsimp only at hS0); go_simp; try with_reducible rfl
  try go_simp
  refine wpAnyH_take (i := 2) (v := ?_) rfl (by kernel_rfl) (by kernel_rfl) (by kernel_rfl) (fun _ _ _ h => h) (Or.inl ⟨by rfl, ?_⟩) (by assumption) ?_
  rotate_left
  · intro w0 hS0; (try dsimp only at hS0); go_simp; try with_reducible rfl
  try go_simp
  refine wpAnyH_take (i := 3) (v := ?_) rfl (by kernel_rfl) (by kernel_rfl) (by kernel_rfl) (fun _ _ _ h => h) (Or.inl ⟨by rfl, ?_⟩) (by assumption) ?_
  rotate_left
  · intro w0 hS0; (try dsimp only at hS0); go_simp; try with_reducible rfl
  try go_simp
  refine wpAnyH_take (i := 4) (v := ?_) rfl (by kernel_rfl) (by kernel_rfl) (by kernel_rfl) (fun _ _ _ h => h) (Or.inl ⟨by rfl, ?_⟩) (by assumption) ?_
  rotate_left
  · intro w0 hS0; (try dsimp only at hS0); go_simp; try with_reducible rfl
  try go_simp
  refine wpAnyH_take (i := 6) (v := ?_) rfl (by kernel_rfl) (by kernel_rfl) (by kernel_rfl) (fun _ _ _ h => h) (Or.inl ⟨by rfl, ?_⟩) (by assumption) ?_
  rotate_left
  · intro w0 hS0; (try dsimp only at hS0); go_simp; try with_reducible rfl
  try go_simp
  refine wpAnyH_take (i := 7) (v := ?_) rfl (by kernel_rfl) (by kernel_rfl) (by kernel_rfl) (fun _ _ _ h => h) (Or.inl ⟨by rfl, ?_⟩) (by assumption) ?_
  rotate_left
  · intro w0 hS0; (try dsimp only at hS0); go_simp; try with_reducible rfl
  try go_simp
  refine wpAnyH_take (i := 8) (v := ?_) rfl (by kernel_rfl) (by kernel_rfl) (by kernel_rfl) (fun _ _ _ h => h) (Or.inl ⟨by rfl, ?_⟩) (by assumption) ?_
  rotate_left
  · intro w0 hS0; (try dsimp only at hS0); go_simp; try with_reducible rfl
  try go_simp
  refine wpAnyH_take (i := 9) (v := ?_) rfl (by kernel_rfl) (by kernel_rfl) (by kernel_rfl) (fun _ _ _ h => h) (Or.inl ⟨by rfl, ?_⟩) (by assumption) ?_
  rotate_left
  · intro w0 hS0; (try dsimp only at hS0); go_simp; try with_reducible rfl
  try go_simp
  refine wpAnyH_take (i := 11) (v := ?_) rfl (by kernel_rfl) (by kernel_rfl) (by kernel_rfl) (fun _ _ _ h => h) (Or.inl ⟨by rfl, ?_⟩) (by assumption) ?_
  rotate_left
  · intro w0 hS0; (try dsimp only at hS0); go_simp; try with_reducible rfl
  try go_simp
  refine wpAnyH_take (i := 12) (v := ?_) rfl (by kernel_rfl) (by kernel_rfl) (by kernel_rfl) (fun _ _ _ h => h) (Or.inl ⟨by rfl, ?_⟩) (by assumption) ?_
  rotate_left
  · intro w0 hS0; (try dsimp only at hS0); go_simp; try with_reducible rfl
  try go_simp
  refine wpAnyH_take (i := 13) (v := ?_) rfl (by kernel_rfl) (by kernel_rfl) (by kernel_rfl) (fun _ _ _ h => h) (Or.inl ⟨by rfl, ?_⟩) (by assumption) ?_
  rotate_left
  · intro w0 hS0; (try dsimp only at hS0); go_simp; try with_reducible rfl
  try go_simp
  refine wpAnyH_take (i := 14) (v := ?_) rfl (by kernel_rfl) (by kernel_rfl) (by kernel_rfl) (fun _ _ _ h => h) (Or.inl ⟨by rfl, ?_⟩) (by assumption) ?_
  rotate_left
  · intro w0 hS0; (try dsimp only at hS0); go_simp; try with_reducible rfl
  try go_simp
  refine wpAnyH_take (i := 16) (v := ?_) rfl (by kernel_rfl) (by kernel_rfl) (by kernel_rfl) (fun _ _ _ h => h) (Or.inl ⟨by rfl, ?_⟩) (by assumption) ?_
  rotate_left
  · intro w0 hS0; (try dsimp only at hS0); go_simp; try with_reducible rfl
  try go_simp
  refine wpAnyH_take (i := 17) (v := ?_) rfl (by kernel_rfl) (by kernel_rfl) (by kernel_rfl) (fun _ _ _ h => h) (Or.inl ⟨by rfl, ?_⟩) (by assumption) ?_
  rotate_left
  · intro w0 hS0; (try dsimp only at hS0); go_simp; try with_reducible rfl
  try go_simp
  refine wpAnyH_take (i := 18) (v := ?_) rfl (by kernel_rfl) (by kernel_rfl) (by kernel_rfl) (fun _ _ _ h => h) (Or.inl ⟨by rfl, ?_⟩) (by assumption) ?_
  rotate_left
  · intro w0 hS0; (try dsimp only at hS0); go_simp; try with_reducible rfl
  try go_simp
  refine wpAnyH_take (i := 19) (v := ?_) rfl (by kernel_rfl) (by kernel_rfl) (by kernel_rfl) (fun _ _ _ h => h) (Or.inl ⟨by rfl, ?_⟩) (by assumption) ?_
  rotate_left
  · intro w0 hS0; (try dsimp only at hS0); go_simp; try with_reducible rfl
  try go_simp
  refine wpAnyH_ready (rs := [5]) (by kernel_rfl) (by simp) (AllReadyH.cons rfl (fun K hK => ?_) AllReadyH.nil)
  go_simp
  refine (list_core_gen _ (by omega) (by omega) HM.out.rd).mono ?_
  rintro e w6 ⟨l1, σ1, A1, n1, c1, hd, hn1, rfl, hOw, hR, hO⟩
  have HN1 := Lib.hid hn1
  have hsz := HM.out.grown.size
  have hM := HM.out.step hR hO
  have hC := step_eq HC.out hd
  have H1 := Lib.hid (hOw.low hsz)
  clear HM HC hR hO hd hOw hsz hn1 cc hHeld
  have HM := Lib.hid hM
  have HC := Lib.hid hC
  have cc : w6.cell? ⟨w.heap.size, 0, none⟩ = some (gp g) := (box1 hM.row).2
  clear hM hC
  go_simp
  refine hK.out _ _ cc (fun hHeld => ?_)
  clear hK K
  try go_simp
  refine wpAnyH_ready (rs := [10]) (by kernel_rfl) (by simp) (AllReadyH.cons rfl (fun K hK => ?_) AllReadyH.nil)
  go_simp
  refine (list_part_gen _ (by omega) (by omega) HM.out.rd).mono ?_
  rintro e w7 ⟨l2, σ2, A2, n2, c2, hd, hn2, rfl, hOw, hR, hO⟩
  have HN2 := Lib.hid hn2
  have hsz := HM.out.grown.size
  have hM := HM.out.step hR hO
  have hC := step_eq HC.out hd
  have H2 := Lib.hid (hOw.low hsz)
  have hq1 := H1.out.map (fun _ _ _ _ _ _ h => own_old h hO HG.out)
  clear H1
  have H1 := Lib.hid hq1
  clear hq1
  clear HM HC hR hO hd hOw hsz hn2 cc hHeld
  have HM := Lib.hid hM
  have HC := Lib.hid hC
  have cc : w7.cell? ⟨w.heap.size, 0, none⟩ = some (gp g) := (box1 hM.row).2
  clear hM hC
  go_simp
  refine hK.out _ _ cc (fun hHeld => ?_)
  clear hK K
  try go_simp
  refine wpAnyH_ready (rs := [15]) (by kernel_rfl) (by simp) (AllReadyH.cons rfl (fun K hK => ?_) AllReadyH.nil)
  go_simp
  refine (list_chan_gen _ (by omega) (by omega) HM.out.rd).mono ?_
  rintro e w8 ⟨l3, σ3, A3, n3, c3, hd, hn3, rfl, hOw, hR, hO⟩
  have HN3 := Lib.hid hn3
  have hsz := HM.out.grown.size
  have hM := HM.out.step hR hO
  have hC := step_eq HC.out hd
  have H3 := Lib.hid (own_base hOw hsz)
  have hq1 := H1.out.map (fun _ _ _ _ _ _ h => own_old h hO HG.out)
  clear H1
  have H1 := Lib.hid hq1
  clear hq1
  have hq2 := H2.out.map (fun _ _ _ _ _ _ h => own_old h hO HG.out)
  clear H2
  have H2 := Lib.hid hq2
  clear hq2
  clear HM HC hR hO hd hOw hsz hn3 cc hHeld
  have HM := Lib.hid hM
  have HC := Lib.hid hC
  have cc : w8.cell? ⟨w.heap.size, 0, none⟩ = some (gp g) := (box1 hM.row).2
  clear hM hC
  go_simp
  refine hK.out _ _ cc (fun hHeld => ?_)
  clear hK K
  try go_simp
  refine wpAnyH_ready (rs := [20]) (by kernel_rfl) (by simp) (AllReadyH.cons rfl (fun K hK => ?_) AllReadyH.nil)
  go_simp
  refine (list_pair_gen _ (by omega) (by omega) HM.out.rd).mono ?_
  rintro e w9 ⟨l4, σ4, A4, n4, c4, hd, hn4, rfl, hOw, hR, hO⟩
  have HN4 := Lib.hid hn4
  have hsz := HM.out.grown.size
  have hM := HM.out.step hR hO
  have hC := step_eq HC.out hd
  have H4 := Lib.hid (own_base hOw hsz)
  have hq1 := H1.out.map (fun _ _ _ _ _ _ h => own_old h hO HG.out)
  clear H1
  have H1 := Lib.hid hq1
  clear hq1
  have hq2 := H2.out.map (fun _ _ _ _ _ _ h => own_old h hO HG.out)
  clear H2
  have H2 := Lib.hid hq2
  clear hq2
  have hq3 := own_old H3.out hO HG.out
  clear H3
  have H3 := Lib.hid hq3
  clear hq3
  clear HM HC hR hO hd hOw hsz hn4 cc hHeld
  have HM := Lib.hid hM
  have HC := Lib.hid hC
  have cc : w9.cell? ⟨w.heap.size, 0, none⟩ = some (gp g) := (box1 hM.row).2
  clear hM hC
  go_simp
  refine hK.out _ _ cc (fun hHeld => ?_)
  clear hK K
  try go_simp
  obtain ⟨d0, d1, d2, d3, d4⟩ := box5 HM.out.res
  have fz := frozen_of HM.out.res
  refine wpAnyH_take (i := 21) (v := ?_) rfl (by kernel_rfl) (by kernel_rfl) (by kernel_rfl) (fun _ _ _ h => h) (Or.inl ⟨by rfl, ?_⟩) (by assumption) ?_
  rotate_left
  · intro w0 hS0; (try dsimp only at hS0); go_simp; try with_reducible rfl
  try go_simp
  refine wpAnyH_ready (rs := [22]) (by kernel_rfl) (by simp) (AllReadyH.cons rfl (fun K hK => ?_) AllReadyH.nil)
  go_simp
  refine hK.out _ _ (keep5 cc) (fun hHeld => ?_)
  clear hK K
  refine wpAnyH_done (by kernel_rfl) ?_ _
  all_goals
    go_wp2
    refine bodyPost_ret (v := planV r.1 ⟨A1, c1, A2, c2, A3, c3, A4, c4⟩) (by rw [HC.out]; simp [results, Tryd.results34, go_sem, d0, d1, d2, d3, d4, ret, planV, HN1.out, HN2.out, HN3.out, HN4.out]) rfl ?_
    have hlow : ∀ (E C : Nat) (v : Value) (n : Nat) (xs : List Value), E ≠ 28 → w9.ownsRow w.heap.size E C v n xs → (((((w9.setCell ⟨w.heap.size + 1, 0, none⟩ (.int .u16 x0)).setCell ⟨w.heap.size + 1, 1, none⟩ (.slice A1 n1 c1)).setCell ⟨w.heap.size + 1, 2, none⟩ (.slice A2 n2 c2)).setCell ⟨w.heap.size + 1, 3, none⟩ (.slice A3 n3 c3)).setCell ⟨w.heap.size + 1, 4, none⟩ (.slice A4 n4 c4)).ownsRow w.heap.size E C v n xs := fun E C v n xs hne ho => own_set5 ho HM.out.res hne
    refine ⟨⟨A1, c1, A2, c2, A3, c3, A4, c4⟩, rfl, ?_, ?_, ?_⟩
    · rw [HC.out]
      exact ⟨H1.out.map hlow, H2.out.map hlow, hlow _ _ _ _ _ (by decide) H3.out, hlow _ _ _ _ _ (by decide) H4.out⟩
    · rw [HC.out]
      exact (((((((HM.out.fin HB.out HG.out).set (Nat.le_succ _) _ _).set (Nat.le_succ _) _ _).set (Nat.le_succ _) _ _).set (Nat.le_succ _) _ _).set (Nat.le_succ _) _ _)).1
    · exact (((((((HM.out.fin HB.out HG.out).set (Nat.le_succ _) _ _).set (Nat.le_succ _) _ _).set (Nat.le_succ _) _ _).set (Nat.le_succ _) _ _).set (Nat.le_succ _) _ _)).2.1
end
end Go.Proofs.YtkgkjkghdllkhaaDoor
