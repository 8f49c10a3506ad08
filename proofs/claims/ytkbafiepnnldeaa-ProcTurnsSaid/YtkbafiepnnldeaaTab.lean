/-
  A table of processes in memory; a process's own questions.
-/
import Derived.Test.YtkbafiepnnldeaaTblD
import Derived.Test.YtkbafiepnnldeaaDelF
import Derived.Deep.RegionHeld3
import Derived.Laws.StructEq
import Derived.Deep.DeepCutAuto
namespace Go.Proofs.Ytkbafiepnnldeaa
open Go.RowKit

/-! ### processes in a row -/
abbrev uV (x : Nat) : Value := .int .u8 (x : Int)
def pV (p : Pr) : Value := .agg #[nV p.st, .bool p.held, nV p.pr]
def pc (p : Pr) (j : Nat) : Value := if j = 0 then nV p.st else if j = 1 then .bool p.held else nV p.pr
def pf (l : List Pr) (k : Nat) : Value := pc (l.getD (k / 3) Pr.nil) (k % 3)
def AllAt (w : World) (b : Nat) (l : List Pr) : Prop := w.rowIs b 70 (l.length * 3) (pf l)
section
variable {w w' : World} {b : Nat} {l : List Pr}
theorem AllAt.lt (h : AllAt w b l) : b < w.heap.size := Go.World.rowIs.lt h
theorem AllAt.same (h : AllAt w b l) (e : w'.heap[b]? = w.heap[b]?) : AllAt w' b l := h.of_block e
theorem AllAt.fz (h : AllAt w b l) (j : Nat) : w.frozen? ⟨b, j, none⟩ = false := h.frozen j
theorem AllAt.at (h : AllAt w b l) {i : Nat} (hi : i < l.length) : w.cell? ⟨b, i * 3, none⟩ = some (nV (l.getD i Pr.nil).st) ∧ w.cell? ⟨b, i * 3 + 1, none⟩ = some (.bool (l.getD i Pr.nil).held) ∧ w.cell? ⟨b, i * 3 + 2, none⟩ = some (nV (l.getD i Pr.nil).pr) := by
  have e : ∀ j, j < 3 → w.cell? ⟨b, i * 3 + j, none⟩ = some (pc (l.getD i Pr.nil) j) := fun j hj => by
    have := h.cell (i := i * 3 + j) (by omega)
    rw [this]
    unfold pf
    rw [show (i * 3 + j) / 3 = i by omega, show (i * 3 + j) % 3 = j by omega]
  exact ⟨e 0 (by decide), e 1 (by decide), e 2 (by decide)⟩
theorem pf_set {i : Nat} (hi : i < l.length) (p : Pr) (k : Nat) : pf (l.set i p) k = if k / 3 = i then pc p (k % 3) else pf l k := by
  unfold pf
  rw [List.getD_eq_getElem?_getD, List.getElem?_set]
  by_cases e : k / 3 = i
  · rw [if_pos e, if_pos e.symm, if_pos (by omega)]; rfl
  · rw [if_neg e, if_neg (fun x => e x.symm), ← List.getD_eq_getElem?_getD]
theorem rowIs_ext {w : World} {b t n : Nat} {f f' : Nat → Value} (h : w.rowIs b t n f) (e : ∀ k, k < n → f k = f' k) : w.rowIs b t n f' := by
  obtain ⟨c, h1, h2, h3⟩ := h
  exact ⟨c, h1, h2, fun k hk => by rw [h3 k hk, e k hk]⟩
/-- One cell of a process. -/
theorem AllAt.one (h : AllAt w b l) {i j : Nat} (hi : i < l.length) (hj : j < 3) (p : Pr) (v : Value) (hv : v = pc p j) (ho : ∀ k, k < 3 → k ≠ j → pc p k = pc (l.getD i Pr.nil) k) : AllAt (w.setCell ⟨b, i * 3 + j, none⟩ v) b (l.set i p) := by
  have h1 := Go.World.rowIs.set h (i * 3 + j) v
  unfold AllAt
  rw [List.length_set]
  refine rowIs_ext h1 fun k hk => ?_
  rw [pf_set hi]
  by_cases e : k = i * 3 + j
  · rw [if_pos e, if_pos (by omega), hv, show k % 3 = j by omega]
  · rw [if_neg e]
    by_cases e2 : k / 3 = i
    · rw [if_pos e2, ho (k % 3) (by omega) (by omega)]
      unfold pf
      rw [e2]
    · rw [if_neg e2]
/-- All three. -/
theorem AllAt.three (h : AllAt w b l) {i : Nat} (hi : i < l.length) (p : Pr) : AllAt (((w.setCell ⟨b, i * 3, none⟩ (nV p.st)).setCell ⟨b, i * 3 + 1, none⟩ (.bool p.held)).setCell ⟨b, i * 3 + 2, none⟩ (nV p.pr)) b (l.set i p) := by
  have h1 := Go.World.rowIs.set (Go.World.rowIs.set (Go.World.rowIs.set h (i * 3) (nV p.st)) (i * 3 + 1) (.bool p.held)) (i * 3 + 2) (nV p.pr)
  unfold AllAt
  rw [List.length_set]
  refine rowIs_ext h1 fun k hk => ?_
  rw [pf_set hi]
  unfold pc
  by_cases e : k = i * 3 + 2
  · rw [if_pos e, if_pos (by omega), if_neg (by omega), if_neg (by omega)]
  · rw [if_neg e]
    by_cases e1 : k = i * 3 + 1
    · rw [if_pos e1, if_pos (by omega), if_neg (by omega), if_pos (by omega)]
    · rw [if_neg e1]
      by_cases e0 : k = i * 3
      · rw [if_pos e0, if_pos (by omega), if_pos (by omega)]
      · rw [if_neg e0, if_neg (by omega)]
end

/-! ### a table -/
/-- A table at block g: its first priorities in block bi, its processes in block ba, its queue the slice v. -/
structure TbAt (w : World) (g bi ba ci : Nat) (v : Value) (T : Tb) : Prop where
  c0 : w.cell? ⟨g, 0, none⟩ = some (.slice (some ⟨bi, 0, none⟩) T.l.length ci)
  c1 : w.cell? ⟨g, 1, none⟩ = some (.slice (some ⟨ba, 0, none⟩) T.l.length T.l.length)
  c2 : w.cell? ⟨g, 2, none⟩ = some v
  fz : ∀ j, w.frozen? ⟨g, j, none⟩ = false
  first : ∀ i, i < T.l.length → w.cell? ⟨bi, i, none⟩ = some (uV (T.first.getD i 0))
  all : AllAt w ba T.l
  row : Nums w v T.q
  n1 : g ≠ bi
  n2 : g ≠ ba
  n3 : bi ≠ ba
  n4 : v.ownBlock ≠ some g
  n5 : v.ownBlock ≠ some bi
  n6 : v.ownBlock ≠ some ba
  pos : 0 < T.l.length
/-- The blocks of a table. -/
def Blk (g bi ba : Nat) (v : Value) (k : Nat) : Prop := k = g ∨ k = bi ∨ k = ba ∨ v.ownBlock = some k
def Slid (v v' : Value) (w : World) : Prop := ∀ x, v'.ownBlock = some x → v.ownBlock = some x ∨ w.heap.size ≤ x
theorem Slid.refl (v : Value) (w : World) : Slid v v w := fun _ h => .inl h
theorem Slid.of {v v' : Value} {w : World} (h : v'.ownBlock = v.ownBlock ∨ ∃ x, v'.ownBlock = some x ∧ w.heap.size ≤ x) : Slid v v' w := fun x hx => by
  rcases h with h | ⟨y, h1, h2⟩
  · exact .inl (h ▸ hx)
  · rw [h1] at hx; injection hx with hx; exact .inr (by omega)
theorem slid_trans {v v' v'' : Value} {w w' : World} (h : Slid v v' w) (k : Slid v' v'' w') (hs : w.heap.size ≤ w'.heap.size) : Slid v v'' w := fun x hx => by
  rcases k x hx with e | e
  · exact h x e
  · exact .inr (Nat.le_trans hs e)
section
variable {w w' : World} {g bi ba ci : Nat} {v : Value} {T : Tb}
theorem TbAt.ltg (h : TbAt w g bi ba ci v T) : g < w.heap.size := cell_lt h.c0
theorem TbAt.lti (h : TbAt w g bi ba ci v T) : bi < w.heap.size := cell_lt (h.first 0 h.pos)
theorem TbAt.lta (h : TbAt w g bi ba ci v T) : ba < w.heap.size := h.all.lt
theorem TbAt.blk_lt (h : TbAt w g bi ba ci v T) {k : Nat} (hk : Blk g bi ba v k) : k < w.heap.size := by
  rcases hk with rfl | rfl | rfl | hk
  · exact h.ltg
  · exact h.lti
  · exact h.lta
  · exact h.row.lt hk
theorem TbAt.same (h : TbAt w g bi ba ci v T) (e : ∀ k, Blk g bi ba v k → w'.heap[k]? = w.heap[k]?) : TbAt w' g bi ba ci v T := by
  have eg := e g (.inl rfl)
  have ei := e bi (.inr (.inl rfl))
  refine ⟨?_, ?_, ?_, fun j => ?_, fun i hi => ?_, h.all.same (e ba (.inr (.inr (.inl rfl)))), h.row.same fun x hx => e x (.inr (.inr (.inr hx))), h.n1, h.n2, h.n3, h.n4, h.n5, h.n6, h.pos⟩
  · rw [World.cell?_of_block (w := w) eg]; exact h.c0
  · rw [World.cell?_of_block (w := w) eg]; exact h.c1
  · rw [World.cell?_of_block (w := w) eg]; exact h.c2
  · rw [World.frozen?_of_block (w := w) eg]; exact h.fz j
  · rw [World.cell?_of_block (w := w) ei]; exact h.first i hi
theorem TbAt.keep (h : TbAt w g bi ba ci v T) (hB : Below w.heap.size w w') : TbAt w' g bi ba ci v T := h.same fun _ hk => hB.block _ (h.blk_lt hk)
theorem TbAt.chg {S : Nat → Prop} (h : TbAt w g bi ba ci v T) (hC : Chg S w w') (hS : ∀ k, Blk g bi ba v k → ¬ S k) : TbAt w' g bi ba ci v T := h.same fun k hk => hC.block _ (h.blk_lt hk) (hS k hk)
theorem TbAt.get (h : TbAt w g bi ba ci v T) {i : Int} (hi : T.has i) : w.cell? ⟨ba, i.toNat * 3, none⟩ = some (nV (atP T.l i).st) ∧ w.cell? ⟨ba, i.toNat * 3 + 1, none⟩ = some (.bool (atP T.l i).held) ∧ w.cell? ⟨ba, i.toNat * 3 + 2, none⟩ = some (nV (atP T.l i).pr) := h.all.at (by have h1 := hi.1; have h2 := hi.2; omega)
end
/-- Behind a call on a table. -/
def TbP (g bi ba ci : Nat) (v : Value) (T' : Tb) (w w' : World) : Prop := ∃ v', TbAt w' g bi ba ci v' T' ∧ Chg (Blk g bi ba v) w w' ∧ Slid v v' w
section
variable {w w' w'' : World} {g bi ba ci : Nat} {v v' : Value} {T T' : Tb}
theorem TbP.below (h : TbAt w g bi ba ci v T) (hB : Below w.heap.size w w') : TbP g bi ba ci v T w w' := ⟨v, h.keep hB, Chg.of_below hB, Slid.refl v w⟩
theorem TbP.trans (h : Chg (Blk g bi ba v) w w') (hs : Slid v v' w) (k : TbP g bi ba ci v' T' w' w'') : TbP g bi ba ci v T' w w'' := by
  obtain ⟨v'', k1, k2, k3⟩ := k
  refine ⟨v'', k1, h.trans' k2 fun i hi hb => ?_, slid_trans hs k3 h.size⟩
  rcases hb with e | e | e | e
  · exact .inl e
  · exact .inr (.inl e)
  · exact .inr (.inr (.inl e))
  · rcases hs i e with h1 | h1
    · exact .inr (.inr (.inr h1))
    · omega
end

/-! ### a process's own questions -/
/-- Three cells stored. -/
theorem threeOf {w : World} {q : Nat} {a b c x0 x1 x2 : Value} (s0 : w.cell? ⟨q, 0, none⟩ = some x0) (s1 : w.cell? ⟨q, 1, none⟩ = some x1) (s2 : w.cell? ⟨q, 2, none⟩ = some x2) {W : World} (hW : W = ((w.setCell ⟨q, 0, none⟩ a).setCell ⟨q, 1, none⟩ b).setCell ⟨q, 2, none⟩ c) :
    W.cell? ⟨q, 0, none⟩ = some a ∧ W.cell? ⟨q, 1, none⟩ = some b ∧ W.cell? ⟨q, 2, none⟩ = some c ∧ Chg (fun k => k = q) w W := by
  have ne : ∀ (i j : Nat), i ≠ j → (⟨q, i, none⟩ : Addr) ≠ ⟨q, j, none⟩ := fun i j h e => by simp only [Addr.mk.injEq] at e; omega
  have u1 : (w.setCell ⟨q, 0, none⟩ a).cell? ⟨q, 1, none⟩ = some x1 := by rw [World.cell?_setCell_other _ _ _ _ (ne 0 1 (by decide))]; exact s1
  have u2 : ((w.setCell ⟨q, 0, none⟩ a).setCell ⟨q, 1, none⟩ b).cell? ⟨q, 2, none⟩ = some x2 := by rw [World.cell?_setCell_other _ _ _ _ (ne 1 2 (by decide)), World.cell?_setCell_other _ _ _ _ (ne 0 2 (by decide))]; exact s2
  subst hW
  refine ⟨?_, ?_, World.cell?_setCell_same _ _ _ u2, ?_⟩
  · rw [World.cell?_setCell_other _ _ _ _ (ne 2 0 (by decide)), World.cell?_setCell_other _ _ _ _ (ne 1 0 (by decide))]; exact World.cell?_setCell_same _ _ _ s0
  · rw [World.cell?_setCell_other _ _ _ _ (ne 2 1 (by decide))]; exact World.cell?_setCell_same _ _ _ u1
  · exact Chg.set (S := fun k => k = q) (a := ⟨q, 2, none⟩) (Chg.set (S := fun k => k = q) (a := ⟨q, 1, none⟩) (Chg.set (S := fun k => k = q) (a := ⟨q, 0, none⟩) (Chg.refl w) rfl _) rfl _) rfl _
def mk1 (w : World) (p : Pr) : World := w.alloc (.cells #[nV p.st, .bool p.held, nV p.pr] 70)
theorem mk1_cell (w : World) (p : Pr) : (mk1 w p).cell? ⟨w.heap.size, 0, none⟩ = some (nV p.st) ∧ (mk1 w p).cell? ⟨w.heap.size, 1, none⟩ = some (.bool p.held) ∧ (mk1 w p).cell? ⟨w.heap.size, 2, none⟩ = some (nV p.pr) :=
  ⟨al_new _ _ _ 0 _ rfl rfl, al_new _ _ _ 1 _ rfl rfl, al_new _ _ _ 2 _ rfl rfl⟩
theorem mk1_bel (w : World) (p : Pr) : Below w.heap.size w (mk1 w p) := (Below.refl _ _).alloc (Nat.le_refl _) _
theorem stopped_any (x : Int) (w : World) : Calls Try.prog 39 #[nV x] w fun e w' => e = .returned (.agg #[nV 0, .bool false, nV x]) ∧ w' = mk1 w ⟨0, false, x⟩ := by
  obtain ⟨t0, t1, t2⟩ := mk1_cell w ⟨0, false, x⟩
  unfold mk1 at t0 t1 t2
  go_enter Try.func39, Try.ntmps39
  go_wp2_with fail
  refine bodyPost_ret (by simp [results, Try.results39, go_sem, t0, t1, t2]; try rfl) rfl ?_
  exact ⟨rfl, rfl⟩
theorem started_any (x : Int) (w : World) : Calls Try.prog 42 #[nV x] w fun e w' => e = .returned (.agg #[nV 1, .bool false, nV x]) ∧ w' = mk1 w ⟨1, false, x⟩ := by
  obtain ⟨t0, t1, t2⟩ := mk1_cell w ⟨1, false, x⟩
  unfold mk1 at t0 t1 t2
  go_enter Try.func42, Try.ntmps42
  go_wp2_with fail
  refine bodyPost_ret (by simp [results, Try.results42, go_sem, t0, t1, t2]; try rfl) rfl ?_
  exact ⟨rfl, rfl⟩
def qP (b : Bool) (w : World) (e : Ending) (w' : World) : Prop := e = .returned (.bool b) ∧ Below w.heap.size w w'
theorem eq70 (a b x y : Int) (c d : Bool) (w : World) : (binOp .eql 70 (.agg #[nV a, .bool c, nV b]) (.agg #[nV x, .bool d, nV y])).run Try.prog w = .ok (.bool (a == x && (c == d && b == y))) w := by
  rw [run_eql_struct, run_equalIn_agg _ _ _ _ _ (by kernel_rfl) (by kernel_rfl)]
  have hf : ((Try.prog.fieldsOf 70).toList.map fun f => (f.name, f.type, f.offset)) = [("state", 47, 0), ("suspended", 4, 1), ("prio", 3, 2)] := by kernel_rfl
  generalize (Try.prog.fieldsOf 70).toList = fs at hf ⊢
  obtain ⟨f1, r1, rfl, ha, hf⟩ := List.map_eq_cons_iff.1 hf
  obtain ⟨f2, r2, rfl, hb, hf⟩ := List.map_eq_cons_iff.1 hf
  obtain ⟨f3, r3, rfl, hc, hf⟩ := List.map_eq_cons_iff.1 hf
  obtain rfl := List.map_eq_nil_iff.1 hf
  simp only [Prod.mk.injEq] at ha hb hc
  obtain ⟨a1, a2, a3⟩ := ha
  obtain ⟨b1, b2, b3⟩ := hb
  obtain ⟨c1, c2, c3⟩ := hc
  have u47 := Try.underlying47
  have u4 := Try.underlying4
  have u3 := Try.underlying3
  simp [Op.eqFields, a1, a2, a3, b1, b2, b3, c1, c2, c3, go_sem]
  by_cases h1 : a = x
  · by_cases h2 : c = d
    · by_cases h3 : b = y
      · simp [h1, h2, h3]
      · simp [h1, h2, h3]
    · simp [h1, h2]
  · simp [h1]
theorem eqg70 : Try.prog.eqGuardType Try.prog.depth 70 = false := by kernel_rfl
theorem runnable_any (p : Pr) (w : World) : Calls Try.prog 37 #[pV p] w fun e w' => qP p.run w e w' := by
  have HS := Lib.hid (fun x W => started_any x W)
  have heq := eq70
  have hgd := eqg70
  have hB := mk1_bel w p
  obtain ⟨t0, t1, t2⟩ := mk1_cell w p
  have HB := Lib.hid hB
  unfold pV
  go_enter Try.func37, Try.ntmps37
  go_wp2_with fail
  have hW : w.alloc (.cells #[nV p.st, .bool p.held, nV p.pr] 70) = mk1 w p := rfl
  rw [hW]
  have hq : w.heap.size ≤ (mk1 w p).heap.size := hB.size
  generalize mk1 w p = w1 at *
  obtain ⟨q, hq2⟩ : ∃ q, q = w.heap.size := ⟨_, rfl⟩
  rw [← hq2] at t0 t1 t2 ⊢
  clear hB hW hq2
  go_region_held3 (fun w' => w'.cell? ⟨q, 0, none⟩ = some (nV p.st) ∧ w'.cell? ⟨q, 1, none⟩ = some (.bool p.held) ∧ w'.cell? ⟨q, 2, none⟩ = some (nV p.pr)) (first | (unfold mk1; go_keep) | go_keep)
    (first
     | (with_reducible refine (HS.out _ _).mono ?_; rintro e w' ⟨rfl, rfl⟩))
  all_goals go_wp2_with fail
  all_goals go_ret
  all_goals exact ⟨rfl, HB.out.trans (((Below.refl w1.heap.size w1).drew.alloc (Nat.le_refl _) _).mono hq)⟩
theorem dormant_any (p : Pr) (w : World) : Calls Try.prog 40 #[pV p] w fun e w' => qP p.dorm w e w' := by
  have HS := Lib.hid (fun x W => stopped_any x W)
  have heq := eq70
  have hgd := eqg70
  have hB := mk1_bel w p
  obtain ⟨t0, t1, t2⟩ := mk1_cell w p
  have HB := Lib.hid hB
  unfold pV
  go_enter Try.func40, Try.ntmps40
  go_wp2_with fail
  have hW : w.alloc (.cells #[nV p.st, .bool p.held, nV p.pr] 70) = mk1 w p := rfl
  rw [hW]
  have hq : w.heap.size ≤ (mk1 w p).heap.size := hB.size
  generalize mk1 w p = w1 at *
  obtain ⟨q, hq2⟩ : ∃ q, q = w.heap.size := ⟨_, rfl⟩
  rw [← hq2] at t0 t1 t2 ⊢
  clear hB hW hq2
  go_region_held3 (fun w' => w'.cell? ⟨q, 0, none⟩ = some (nV p.st) ∧ w'.cell? ⟨q, 1, none⟩ = some (.bool p.held) ∧ w'.cell? ⟨q, 2, none⟩ = some (nV p.pr)) (first | (unfold mk1; go_keep) | go_keep)
    (first
     | (with_reducible refine (HS.out _ _).mono ?_; rintro e w' ⟨rfl, rfl⟩))
  all_goals go_wp2_with fail
  all_goals go_ret
  all_goals exact ⟨rfl, HB.out.trans (((Below.refl w1.heap.size w1).drew.alloc (Nat.le_refl _) _).mono hq)⟩
theorem waiting_any (p : Pr) (w : World) : Calls Try.prog 44 #[pV p] w fun e w' => qP (decide (p.st = 2)) w e w' := by
  unfold pV
  go_enter Try.func44, Try.ntmps44
  go_wp2_with fail
  go_ret
  exact ⟨by simp; rfl, (Below.refl _ _).alloc (Nat.le_refl _) _⟩
theorem held_any (p : Pr) (w : World) : Calls Try.prog 50 #[pV p] w fun e w' => qP p.held w e w' := by
  unfold pV
  go_enter Try.func50, Try.ntmps50
  go_wp2_with fail
  go_ret
  exact ⟨rfl, (Below.refl _ _).alloc (Nat.le_refl _) _⟩
theorem active_any (p : Pr) (w : World) : Calls Try.prog 46 #[pV p] w fun e w' => qP (!p.dorm) w e w' := by
  have HD := Lib.hid (fun W => dormant_any p W)
  unfold pV at HD ⊢
  go_enter Try.func46, Try.ntmps46
  go_wp2_with fail
  with_reducible refine (HD.out _).mono ?_
  rintro e w1 ⟨rfl, hB⟩
  have HB := Lib.hid (Below.trans ((Below.refl w.heap.size w).alloc (Nat.le_refl _) (.cells #[nV p.st, .bool p.held, nV p.pr] 70)) (hB.mono (by simp)))
  clear hB
  go_wp2_with fail
  go_ret
  exact ⟨rfl, HB.out⟩
theorem holdable_any (p : Pr) (w : World) : Calls Try.prog 48 #[pV p] w fun e w' => qP (!p.dorm && !p.held) w e w' := by
  have HD := Lib.hid (fun W => active_any p W)
  have HE := Lib.hid (fun W => held_any p W)
  obtain ⟨t0, t1, t2⟩ := mk1_cell w p
  unfold mk1 at t0 t1 t2
  unfold pV at HD HE ⊢
  go_enter Try.func48, Try.ntmps48
  cases hd : p.dorm with
  | true =>
    rw [hd] at HD
    go_wp2_with fail
    with_reducible refine (HD.out _).mono ?_
    rintro e w1 ⟨rfl, hB⟩
    have HB := Lib.hid (Below.trans ((Below.refl w.heap.size w).alloc (Nat.le_refl _) (.cells #[nV p.st, .bool p.held, nV p.pr] 70)) (hB.mono (by simp)))
    clear hB
    go_wp2_with fail
    go_ret
    exact ⟨rfl, HB.out⟩
  | false =>
    rw [hd] at HD
    go_wp2_with fail
    with_reducible refine (HD.out _).mono ?_
    rintro e w1 ⟨rfl, hB⟩
    have HB := Lib.hid (Below.trans ((Below.refl w.heap.size w).alloc (Nat.le_refl _) (.cells #[nV p.st, .bool p.held, nV p.pr] 70)) (hB.mono (by simp)))
    have k0 := kept t0 hB
    have k1 := kept t1 hB
    have k2 := kept t2 hB
    have hs : w.heap.size ≤ w1.heap.size := HB.out.size
    clear hB
    go_wp2_with fail
    with_reducible refine (HE.out _).mono ?_
    rintro e w2 ⟨rfl, hB2⟩
    have HB2 := Lib.hid hB2
    clear hB2
    go_wp2_with fail
    go_ret
    exact ⟨rfl, HB.out.trans (HB2.out.mono hs)⟩
end Go.Proofs.Ytkbafiepnnldeaa
