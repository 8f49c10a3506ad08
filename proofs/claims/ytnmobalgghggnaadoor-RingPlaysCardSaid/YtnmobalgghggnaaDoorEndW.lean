/-
  The two ends of a ring have in common: where words lie; how many words a ring needs.
-/
import Derived.Test.YtnmobalgghggnaaDoorNum
namespace Go.Proofs.YtnmobalgghggnaaDoor
open Go.RowKit

theorem capP_of {pl : Nat} (h : CapN pl) : capP (pl : Int) = true := by
  obtain ⟨k, hk, rfl⟩ := h
  unfold capP capN
  exact List.any_eq_true.2 ⟨k, List.mem_range.2 (by omega), by rw [Int.toNat_natCast, beq_iff_eq]⟩
theorem capN_of {p : Int} (h : capP p = true) : CapN p.toNat := by
  unfold capP capN at h
  obtain ⟨k, hk, he⟩ := List.any_eq_true.1 h
  exact ⟨k, by have := List.mem_range.1 hk; omega, by simpa using he⟩
/-- Nothing but draws. -/
def Qt (w w' : World) : Prop := ∃ m, w' = w.drewN m
theorem Qt.refl (w : World) : Qt w w := ⟨0, rfl⟩
theorem Qt.below {n : Nat} {w w' : World} (h : Qt w w') : Below n w w' := by
  obtain ⟨m, rfl⟩ := h
  have h := Below.refl n w
  exact ⟨h.os, h.tape, h.output, h.size, h.block⟩
/-- The cells of an end, in block B. -/
structure EndAt (w : World) (B : Nat) (a pl sz o x p : Int) : Prop where
  c0 : w.cell? ⟨B, 0, none⟩ = some (.int .i64 a)
  c1 : w.cell? ⟨B, 1, none⟩ = some (.int .i64 pl)
  c2 : w.cell? ⟨B, 2, none⟩ = some (.int .i64 sz)
  c3 : w.cell? ⟨B, 3, none⟩ = some (.int .u32 o)
  c4 : w.cell? ⟨B, 4, none⟩ = some (.int .u32 x)
  c5 : w.cell? ⟨B, 5, none⟩ = some (.int .i64 p)
  fz : ∀ j, w.frozen? ⟨B, j, none⟩ = false
section
variable {w w' : World} {B : Nat} {a pl sz o x p : Int}
theorem EndAt.same (h : EndAt w B a pl sz o x p) (e : w'.heap[B]? = w.heap[B]?) : EndAt w' B a pl sz o x p :=
  ⟨by rw [World.cell?_of_block (w := w) e]; exact h.c0, by rw [World.cell?_of_block (w := w) e]; exact h.c1, by rw [World.cell?_of_block (w := w) e]; exact h.c2, by rw [World.cell?_of_block (w := w) e]; exact h.c3, by rw [World.cell?_of_block (w := w) e]; exact h.c4, by rw [World.cell?_of_block (w := w) e]; exact h.c5,
   fun j => by rw [World.frozen?_of_block (w := w) e]; exact h.fz j⟩
theorem EndAt.lt (h : EndAt w B a pl sz o x p) : B < w.heap.size := cell_lt h.c0
theorem EndAt.keep (h : EndAt w B a pl sz o x p) (hB : Below w.heap.size w w') : EndAt w' B a pl sz o x p := h.same (hB.block _ h.lt)
theorem EndAt.drewN (h : EndAt w B a pl sz o x p) (n : Nat) : EndAt (w.drewN n) B a pl sz o x p := ⟨h.c0, h.c1, h.c2, h.c3, h.c4, h.c5, h.fz⟩
theorem EndAt.far (h : EndAt w B a pl sz o x p) {j : Nat} (hj : 6 ≤ j) (v : Value) : EndAt (w.setCell ⟨B, j, none⟩ v) B a pl sz o x p :=
  ⟨by rw [World.cell?_setCell_other _ _ _ _ (fun e => by injection e with _ e _; omega)]; exact h.c0, by rw [World.cell?_setCell_other _ _ _ _ (fun e => by injection e with _ e _; omega)]; exact h.c1, by rw [World.cell?_setCell_other _ _ _ _ (fun e => by injection e with _ e _; omega)]; exact h.c2,
   by rw [World.cell?_setCell_other _ _ _ _ (fun e => by injection e with _ e _; omega)]; exact h.c3, by rw [World.cell?_setCell_other _ _ _ _ (fun e => by injection e with _ e _; omega)]; exact h.c4, by rw [World.cell?_setCell_other _ _ _ _ (fun e => by injection e with _ e _; omega)]; exact h.c5, fun j => by rw [World.frozen?_setCell]; exact h.fz j⟩
theorem EndAt.setO (h : EndAt w B a pl sz o x p) (v : Int) : EndAt (w.setCell ⟨B, 3, none⟩ (.int .u32 v)) B a pl sz v x p :=
  ⟨by rw [World.cell?_setCell_other _ _ _ _ (by simp)]; exact h.c0, by rw [World.cell?_setCell_other _ _ _ _ (by simp)]; exact h.c1, by rw [World.cell?_setCell_other _ _ _ _ (by simp)]; exact h.c2, World.cell?_setCell_same _ _ _ h.c3, by rw [World.cell?_setCell_other _ _ _ _ (by simp)]; exact h.c4, by rw [World.cell?_setCell_other _ _ _ _ (by simp)]; exact h.c5, fun j => by rw [World.frozen?_setCell]; exact h.fz j⟩
theorem EndAt.setX (h : EndAt w B a pl sz o x p) (v : Int) : EndAt (w.setCell ⟨B, 4, none⟩ (.int .u32 v)) B a pl sz o v p :=
  ⟨by rw [World.cell?_setCell_other _ _ _ _ (by simp)]; exact h.c0, by rw [World.cell?_setCell_other _ _ _ _ (by simp)]; exact h.c1, by rw [World.cell?_setCell_other _ _ _ _ (by simp)]; exact h.c2, by rw [World.cell?_setCell_other _ _ _ _ (by simp)]; exact h.c3, World.cell?_setCell_same _ _ _ h.c4, by rw [World.cell?_setCell_other _ _ _ _ (by simp)]; exact h.c5, fun j => by rw [World.frozen?_setCell]; exact h.fz j⟩
theorem EndAt.setP (h : EndAt w B a pl sz o x p) (v : Int) : EndAt (w.setCell ⟨B, 5, none⟩ (.int .i64 v)) B a pl sz o x v :=
  ⟨by rw [World.cell?_setCell_other _ _ _ _ (by simp)]; exact h.c0, by rw [World.cell?_setCell_other _ _ _ _ (by simp)]; exact h.c1, by rw [World.cell?_setCell_other _ _ _ _ (by simp)]; exact h.c2, by rw [World.cell?_setCell_other _ _ _ _ (by simp)]; exact h.c3, by rw [World.cell?_setCell_other _ _ _ _ (by simp)]; exact h.c4, World.cell?_setCell_same _ _ _ h.c5, fun j => by rw [World.frozen?_setCell]; exact h.fz j⟩
end
set_option maxHeartbeats 1000000 in
theorem words_for (n : Nat) (x : Int) (hx : x = n) (w : World) (hn : n ≤ 1000) : Calls Tryd.prog 47 #[.int .i64 x] w fun e w' => e = .returned (.int .i64 (need n)) ∧ w = w' := by
  subst hx
  have h1 : IntKind.i64.wrap ((n : Int) + 3) = (n : Int) + 3 := IntWalk.i64_in _ (by omega)
  have h2 : ((n : Int) + 3).tdiv 4 = (need n : Nat) := by
    rw [Int.tdiv_eq_ediv_of_nonneg (by omega)]
    unfold need
    omega
  have h3 : IntKind.i64.wrap ((need n : Nat) : Int) = (need n : Nat) := IntWalk.i64_in _ (by unfold need; omega)
  go_enter Tryd.func47, Tryd.ntmps47
  go_wp2_with fail
  go_ret
  exact ⟨rfl, rfl⟩
set_option maxHeartbeats 1000000 in
theorem per_slot (n : Nat) (x : Int) (hx : x = n) (w : World) (hn : n ≤ 1000) : Calls Tryd.prog 28 #[.int .i64 x] w fun e w' => e = .returned (.int .i64 (per n)) ∧ w = w' := by
  have HA := Lib.hid (fun W => words_for n x hx W hn)
  have h3 : IntKind.i64.wrap (1 + ((need n : Nat) : Int)) = (per n : Nat) := by unfold per; rw [IntWalk.i64_in _ (by unfold need; omega)]; omega
  clear hx
  go_enter Tryd.func28, Tryd.ntmps28
  go_wp2_with fail
  with_reducible refine (HA.out _).mono ?_
  rintro e w1 ⟨rfl, rfl⟩
  go_wp2_with fail
  go_ret
  exact ⟨rfl, rfl⟩
set_option maxHeartbeats 1000000 in
theorem iscap_any (p : Int) (w : World) : Calls Tryd.prog 27 #[.int .i64 p] w fun e w' => e = .returned (.bool (capP p)) ∧ w = w' := by
  by_cases h1 : p < 0
  · rw [cap_small p (by omega)]
    go_enter Tryd.func27, Tryd.ntmps27
    go_wp2_with fail
    go_ret
    exact ⟨rfl, rfl⟩
  · by_cases h2 : 32768 < p
    · rw [cap_big p h2]
      go_enter Tryd.func27, Tryd.ntmps27
      go_wp2_with fail
      go_ret
      exact ⟨rfl, rfl⟩
    · have hw : IntKind.u32.wrap p = p := by rw [IntKind.wrap_u32']; omega
      have HA := Lib.hid (fun W => slot_any 0 p W (by omega) (by omega) (by omega))
      have hE : (slotE p == 0) = capP p := by unfold slotE; cases capP p <;> rfl
      have HE := Lib.hid hE
      clear hE
      go_enter Tryd.func27, Tryd.ntmps27
      go_wp2_with fail
      with_reducible refine (HA.out _).mono ?_
      rintro e w1 ⟨rfl, rfl⟩
      go_wp2_with fail
      go_ret
      exact ⟨by first | rfl | (rw [HE.out]; rfl), rfl⟩
/-- What Words answers. -/
def wordsV (p z : Int) : Int := if capP p = true ∧ 1 ≤ z ∧ z ≤ 32 then 2 + p * (per z.toNat : Nat) else 0
def wordsE (p z : Int) : Int := if capP p = true then (if 1 ≤ z ∧ z ≤ 32 then 0 else 121) else 120
set_option maxHeartbeats 1000000 in
theorem rwords_any (p z : Int) (w : World) : Calls Tryd.prog 10 #[.int .i64 p, .int .i64 z] w fun e w' => e = .returned (.tuple #[.int .i64 (wordsV p z), .int .i64 (wordsE p z)]) ∧ w = w' := by
  have HA := Lib.hid (fun W => iscap_any p W)
  cases hc : capP p
  · have e1 : wordsV p z = 0 := by unfold wordsV; rw [hc]; simp
    have e2 : wordsE p z = 120 := by unfold wordsE; rw [hc]; simp
    rw [e1, e2]
    rw [hc] at HA
    clear e1 e2 hc
    go_enter Tryd.func10, Tryd.ntmps10
    go_wp2_with fail
    with_reducible refine (HA.out _).mono ?_
    rintro e w1 ⟨rfl, rfl⟩
    go_wp2_with fail
    go_ret2
    exact ⟨rfl, rfl⟩
  · have hb := cap_bounds p hc
    rw [hc] at HA
    by_cases hz : 1 ≤ z ∧ z ≤ 32
    · have e1 : wordsV p z = 2 + p * (per z.toNat : Nat) := by unfold wordsV; rw [if_pos ⟨hc, hz⟩]
      have e2 : wordsE p z = 0 := by unfold wordsE; rw [if_pos hc, if_pos hz]
      have HP := Lib.hid (fun W => per_slot z.toNat z (by omega) W (by omega))
      rw [e1, e2]
      have hp : per z.toNat ≤ 9 := by have := need_le (n := z.toNat) (by omega); unfold per; omega
      obtain ⟨N, hN⟩ : ∃ N : Int, N = p * (per z.toNat : Nat) := ⟨_, rfl⟩
      have hN2 : 0 ≤ N ∧ N ≤ 294912 := by
        rw [hN]
        refine ⟨Int.mul_nonneg (by omega) (by omega), ?_⟩
        calc p * (per z.toNat : Nat) ≤ 32768 * 9 := Int.mul_le_mul hb.2 (by omega) (by omega) (by omega)
          _ = 294912 := rfl
      rw [← hN]
      have w1 : IntKind.i64.wrap N = N := IntWalk.i64_in _ (by omega)
      rw [hN] at w1
      have w2 : IntKind.i64.wrap (2 + N) = 2 + N := IntWalk.i64_in _ (by omega)
      rw [hN] at w2 ⊢
      obtain ⟨z1, z2⟩ := hz
      clear e1 e2 hc hN hN2 hp
      go_enter Tryd.func10, Tryd.ntmps10
      go_wp2_with fail
      with_reducible refine (HA.out _).mono ?_
      rintro e w1 ⟨rfl, rfl⟩
      go_wp2_with fail
      with_reducible refine (HP.out _).mono ?_
      rintro e w1 ⟨rfl, rfl⟩
      go_wp2_with fail
      go_ret2
      exact ⟨rfl, rfl⟩
    · have e1 : wordsV p z = 0 := by unfold wordsV; rw [if_neg fun h => hz h.2]
      have e2 : wordsE p z = 121 := by unfold wordsE; rw [if_pos hc, if_neg hz]
      rw [e1, e2]
      clear e1 e2 hc
      by_cases hz1 : z < 1
      · clear hz
        go_enter Tryd.func10, Tryd.ntmps10
        go_wp2_with fail
        with_reducible refine (HA.out _).mono ?_
        rintro e w1 ⟨rfl, rfl⟩
        go_wp2_with fail
        go_ret2
        exact ⟨rfl, rfl⟩
      · have hz2 : 32 < z := by omega
        clear hz
        go_enter Tryd.func10, Tryd.ntmps10
        go_wp2_with fail
        with_reducible refine (HA.out _).mono ?_
        rintro e w1 ⟨rfl, rfl⟩
        go_wp2_with fail
        go_ret2
        exact ⟨rfl, rfl⟩
section
variable (B : Nat) (a : Int) (pl sz : Nat) (o x : Int) (p : Nat) (w : World)
set_option maxHeartbeats 1000000 in
theorem tail_any (p' : Int) (pl' sz' : Int) (hT : EndAt w B a pl' sz' o x p') (ha : -1000 ≤ a ∧ a ≤ 1000) : Calls Tryd.prog 63 #[.pointer (some ⟨B, 0, none⟩)] w fun e w' => e = .returned (.int .i64 (a + 1)) ∧ w = w' := by
  have k0 := hT.c0
  have h1 : IntKind.i64.wrap (a + 1) = a + 1 := IntWalk.i64_in _ (by omega)
  clear hT
  go_enter Tryd.func63, Tryd.ntmps63
  go_wp2_with fail
  go_ret
  exact ⟨rfl, rfl⟩
theorem slot_rng {x : Int} {pl sz : Nat} (hp : CapN pl) (hz : sz ≤ 32) : 0 ≤ x % pl ∧ x % pl < 32768 ∧ 0 ≤ x % pl * (per sz : Nat) ∧ x % pl * (per sz : Nat) ≤ 294912 := by
  have hp' := hp.rng
  have h0 : 0 ≤ x % pl := Int.emod_nonneg _ (by omega)
  have h1 : x % pl < pl := Int.emod_lt_of_pos _ (by omega)
  have hq : per sz ≤ 9 := by have := need_le hz; unfold per; omega
  refine ⟨h0, by omega, Int.mul_nonneg h0 (by omega), ?_⟩
  calc x % pl * (per sz : Nat) ≤ 32768 * 9 := Int.mul_le_mul (by omega) (by omega) (by omega) (by omega)
    _ = 294912 := rfl
theorem base_rng {x a : Int} {pl sz : Nat} (hp : CapN pl) (hz : sz ≤ 32) (ha : -1000 ≤ a ∧ a ≤ 1000) : -1000 ≤ base a pl sz x ∧ base a pl sz x ≤ 300000 := by
  have := slot_rng (x := x) hp hz
  unfold base
  omega
set_option maxHeartbeats 2000000 in
theorem length_any (p' : Int) (hT : EndAt w B a pl sz o x p') (ha : -1000 ≤ a ∧ a ≤ 1000) (hp : CapN pl) (hz : sz ≤ 32) (hx : 0 ≤ x ∧ x < 4294967296) :
    Calls Tryd.prog 66 #[.pointer (some ⟨B, 0, none⟩)] w fun e w' => e = .returned (.int .i64 (base a pl sz x)) ∧ ∃ m, w' = w.drewN m := by
  have k0 := hT.c0
  have k1 := hT.c1
  have k2 := hT.c2
  have k4 := hT.c4
  have hr := hp.rng
  have hs := slot_ok (i := x) (capP_of hp)
  have HS := Lib.hid (fun W => slot_any x pl W hx.1 (by omega) (by omega))
  rw [hs.1, hs.2] at HS
  have HP := Lib.hid (fun W => per_slot sz sz rfl W (by omega))
  have hb := slot_rng (x := x) hp hz
  have hw0 : IntKind.u32.wrap (pl : Int) = pl := by rw [IntKind.wrap_u32']; omega
  have hw1 : IntKind.i64.wrap (a + 2) = a + 2 := IntWalk.i64_in _ (by omega)
  have hw2 : IntKind.i64.wrap (x % pl) = x % pl := IntWalk.i64_in _ (by omega)
  have hw3 : IntKind.i64.wrap (x % pl * (per sz : Nat)) = x % pl * (per sz : Nat) := IntWalk.i64_in _ (by omega)
  have hw4 : IntKind.i64.wrap (a + 2 + x % pl * (per sz : Nat)) = a + 2 + x % pl * (per sz : Nat) := IntWalk.i64_in _ (by omega)
  unfold base
  generalize x % (pl : Int) = y at *
  clear hT hp hs hb hr
  go_enter Tryd.func66, Tryd.ntmps66
  go_wp2_with fail
  go_quiet ((go_at_call 46; exact Calls.quiet_of_same ((HS.out _).mono fun _ _ ⟨h1, h2⟩ => ⟨h1, h2.symm⟩)))
  have j0 : (w.drewN nq).cell? ⟨B, 0, none⟩ = some (.int .i64 a) := k0
  have j2 : (w.drewN nq).cell? ⟨B, 2, none⟩ = some (.int .i64 sz) := k2
  obtain ⟨w1, hw1⟩ : ∃ w1, w1 = w.drewN nq := ⟨_, rfl⟩
  rw [← hw1] at j0 j2 ⊢
  have HW := Lib.hid hw1
  clear hw1 k0 k1 k2 k4
  go_wp2_with fail
  go_quiet ((go_at_call 28; exact Calls.quiet_of_same ((HP.out _).mono fun _ _ ⟨h1, h2⟩ => ⟨h1, h2.symm⟩)))
  go_wp2_with fail
  go_ret
  rw [HW.out]
  exact ⟨rfl, _, World.drewN_drewN _ _ _⟩
set_option maxHeartbeats 2000000 in
theorem word_any (hT : EndAt w B a pl sz o x p) (ha : -1000 ≤ a ∧ a ≤ 1000) (hp : CapN pl) (hz : sz ≤ 32) (hx : 0 ≤ x ∧ x < 4294967296) (hp8 : p ≤ 8) :
    Calls Tryd.prog 67 #[.pointer (some ⟨B, 0, none⟩)] w fun e w' => e = .returned (.int .i64 (base a pl sz x + 1 + p)) ∧ ∃ m, w' = w.drewN m := by
  have k5 := hT.c5
  have HS := Lib.hid (fun n => length_any B a pl sz o x (w.drewN n) p (hT.drewN n) ha hp hz hx)
  have hb := base_rng (x := x) hp hz ha
  generalize base a pl sz x = y at *
  have hw1 : IntKind.i64.wrap (y + 1) = y + 1 := IntWalk.i64_in _ (by omega)
  have hw2 : IntKind.i64.wrap (y + 1 + p) = y + 1 + p := IntWalk.i64_in _ (by omega)
  clear hT hp hb
  go_enter Tryd.func67, Tryd.ntmps67
  go_wp2_with fail
  go_quiet ((go_at_call 66; exact Calls.quiet_of (HS.out _)))
  go_wp2_with fail
  go_ret
  exact ⟨rfl, _, rfl⟩
set_option maxHeartbeats 2000000 in
theorem pass_more (n : Nat) (y : Int) (hy : y = n) (hT : EndAt w B a pl sz o x p) (hn : n ≤ 32) (hp : p + 1 < need n) :
    Calls Tryd.prog 68 #[.pointer (some ⟨B, 0, none⟩), .int .u32 y] w fun e w' => e = .returned (.int .i64 3) ∧ ∃ m, w' = (w.setCell ⟨B, 5, none⟩ (.int .i64 ((p : Int) + 1))).drewN m := by
  subst hy
  have h8 := need_le hn
  have k5 := hT.c5
  have z5 := hT.fz 5
  have q5 := (hT.setP ((p : Int) + 1)).c5
  have HA := Lib.hid (fun W => words_for n n rfl W (by omega))
  have hw1 : IntKind.i64.wrap ((p : Int) + 1) = ((p : Int) + 1) := IntWalk.i64_in _ (by omega)
  have hw2 : IntKind.i64.wrap (n : Int) = n := IntWalk.i64_in _ (by omega)
  have hlt : (((p : Int) + 1)) < (need n : Nat) := by omega
  clear hT
  go_enter Tryd.func68, Tryd.ntmps68
  go_wp2_with fail
  go_quiet ((go_at_call 47; exact Calls.quiet_of_same ((HA.out _).mono fun _ _ ⟨h1, h2⟩ => ⟨h1, h2.symm⟩)))
  go_wp2_with fail
  go_ret
  exact ⟨rfl, _, rfl⟩
set_option maxHeartbeats 2000000 in
theorem pass_last (n : Nat) (y : Int) (hy : y = n) (hT : EndAt w B a pl sz o x p) (hn : n ≤ 32) (hp : ¬ p + 1 < need n) (hp8 : p ≤ 8) :
    Calls Tryd.prog 68 #[.pointer (some ⟨B, 0, none⟩), .int .u32 y] w fun e w' => e = .returned (.int .i64 4) ∧ ∃ m, w' = ((w.setCell ⟨B, 5, none⟩ (.int .i64 ((p : Int) + 1))).drewN m).setCell ⟨B, 5, none⟩ (.int .i64 0) := by
  subst hy
  have h8 := need_le hn
  have k5 := hT.c5
  have z5 := hT.fz 5
  have q5 := (hT.setP ((p : Int) + 1)).c5
  have HA := Lib.hid (fun W => words_for n n rfl W (by omega))
  have hw1 : IntKind.i64.wrap ((p : Int) + 1) = ((p : Int) + 1) := IntWalk.i64_in _ (by omega)
  have hw2 : IntKind.i64.wrap (n : Int) = n := IntWalk.i64_in _ (by omega)
  have hlt : ¬ (((p : Int) + 1)) < (need n : Nat) := by omega
  clear hT
  go_enter Tryd.func68, Tryd.ntmps68
  go_wp2_with fail
  go_quiet ((go_at_call 47; exact Calls.quiet_of_same ((HA.out _).mono fun _ _ ⟨h1, h2⟩ => ⟨h1, h2.symm⟩)))
  go_wp2_with fail
  go_ret
  exact ⟨rfl, _, rfl⟩
end
end Go.Proofs.YtnmobalgghggnaaDoor
