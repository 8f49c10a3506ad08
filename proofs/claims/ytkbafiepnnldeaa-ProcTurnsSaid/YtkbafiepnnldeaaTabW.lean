/-
  What a table tells: Running, Order, State; Reset.
-/
import Derived.Test.YtkbafiepnnldeaaOpW
namespace Go.Proofs.Ytkbafiepnnldeaa
open Go.RowKit

def headOf (q : List Int) : Int × Bool := match q with | [] => (0, false) | a :: _ => (a, true)
theorem running_any {g bi ba ci : Nat} {v : Value} {T : Tb} (w : World) (h : TbAt w g bi ba ci v T) : Calls Try.prog 14 #[.pointer (some ⟨g, 0, none⟩)] w fun e w' => e = .returned (.tuple #[nV (headOf T.q).1, .bool (headOf T.q).2]) ∧ w = w' := by
  have c2 := h.c2
  obtain ⟨A, c, rfl, hA⟩ := h.row.len
  cases hq : T.q with
  | nil =>
    rw [hq] at c2
    clear h hA
    go_enter Try.func14, Try.ntmps14
    go_wp2_with fail
    go_ret2
    exact ⟨rfl, rfl⟩
  | cons a r =>
    obtain ⟨g', rfl⟩ := hA (by rw [hq]; simp)
    have k0 := h.row.at (i := 0) (by rw [hq]; simp)
    rw [hq] at k0 c2
    have k0 : w.cell? ⟨g', 0, none⟩ = some (nV a) := k0
    obtain ⟨n, hn⟩ : ∃ n, n = (a :: r).length := ⟨_, rfl⟩
    rw [← hn] at c2
    have i0 : (0 : Int) < (n : Int) := by rw [hn, List.length_cons]; omega
    have i1 : ¬ (n : Int) = 0 := by omega
    have i2 : ¬ n = 0 := by omega
    clear h hA hn hq
    go_enter Try.func14, Try.ntmps14
    go_wp2_with fail
    go_ret2
    exact ⟨rfl, rfl⟩
theorem order_any {g bi ba ci : Nat} {v : Value} {T : Tb} (w : World) (h : TbAt w g bi ba ci v T) (hn : T.q.length ≤ 1000) : Calls Try.prog 18 #[.pointer (some ⟨g, 0, none⟩)] w fun e w' => Fresh T.q w e w' := by
  have c2 := h.c2
  have HC := Lib.hid (clone_any v T.q w h.row (by omega))
  clear h
  go_enter Try.func18, Try.ntmps18
  go_wp2_with fail
  with_reducible refine HC.out.mono ?_
  rintro e w1 ⟨v', rfl, h1, h2, h3⟩
  have HF : Hid (Fresh T.q w (.returned v') w1) := ⟨v', rfl, h1, h2, h3⟩
  clear h1 h2 h3
  go_wp2_with fail
  go_ret
  exact HF.out
def stateOf (T : Tb) (i : Int) : Pr := if T.has i then atP T.l i else Pr.nil
def stV (p : Pr) : Value := .tuple #[nV p.st, .bool p.held, nV p.pr]
theorem state_any {g bi ba ci : Nat} {v : Value} {T : Tb} (i : Int) (w : World) (h : TbAt w g bi ba ci v T) : Calls Try.prog 20 #[.pointer (some ⟨g, 0, none⟩), nV i] w fun e w' => e = .returned (stV (stateOf T i)) ∧ Below w.heap.size w w' := by
  have HH := Lib.hid (has_any i w h)
  by_cases hi : T.has i
  · obtain ⟨k, hk⟩ : ∃ k : Nat, i = (k : Int) := ⟨i.toNat, by have := hi.1; omega⟩
    subst hk
    have hkl : k < T.l.length := by have := hi.2; omega
    have hS : stateOf T (k : Int) = T.l.getD k Pr.nil := by unfold stateOf; rw [if_pos hi, atP_nat]
    rw [hS]
    obtain ⟨p, hp⟩ : ∃ p, p = T.l.getD k Pr.nil := ⟨_, rfl⟩
    have c1 := h.c1
    obtain ⟨d0, d1, d2⟩ := h.all.at hkl
    rw [← hp] at d0 d1 d2 ⊢
    have HHT : Hid (decide (T.has (k : Int)) = true) := decide_eq_true hi
    obtain ⟨n, hn⟩ : ∃ n, n = T.l.length := ⟨_, rfl⟩
    rw [← hn] at c1 hkl
    have i0 : (0 : Int) ≤ (k : Int) := Int.natCast_nonneg _
    have i1 : (k : Int) < (n : Int) := by omega
    obtain ⟨w1, hw1⟩ : ∃ w1, w1 = w.alloc (.cells #[nV p.st, .bool p.held, nV p.pr] 70) := ⟨_, rfl⟩
    have hB1 : Below w.heap.size w w1 := by rw [hw1]; exact (Below.refl _ _).alloc (Nat.le_refl _) _
    have a0 : w1.cell? ⟨w.heap.size, 0, none⟩ = some (nV p.st) := by rw [hw1]; exact al_new _ _ _ 0 _ rfl rfl
    have a1 : w1.cell? ⟨w.heap.size, 1, none⟩ = some (.bool p.held) := by rw [hw1]; exact al_new _ _ _ 1 _ rfl rfl
    have a2 : w1.cell? ⟨w.heap.size, 2, none⟩ = some (nV p.pr) := by rw [hw1]; exact al_new _ _ _ 2 _ rfl rfl
    have HB1 := Lib.hid hB1
    clear h hi hS hp hn hkl hB1
    go_enter Try.func20, Try.ntmps20
    go_wp2_with fail
    with_reducible refine HH.out.mono ?_
    rintro e wx ⟨rfl, hwx⟩
    rw [HHT.out]
    subst hwx
    go_upto_region 4 with fail
    rw [← hw1]
    clear hw1 c1 d0 d1 d2
    go_wp2_with fail
    go_region
    all_goals go_wp2_with fail
    all_goals refine bodyPost_ret (by simp [results, Try.results20, go_sem]; try rfl) rfl ?_
    all_goals exact ⟨rfl, HB1.out.drew⟩
  · have hS : stateOf T i = Pr.nil := by unfold stateOf; rw [if_neg hi]
    rw [hS]
    have HHF : Hid (decide (T.has i) = false) := decide_eq_false hi
    clear h hi hS
    go_enter Try.func20, Try.ntmps20
    go_wp2_with fail
    with_reducible refine HH.out.mono ?_
    rintro e wx ⟨rfl, hwx⟩
    rw [HHF.out]
    subst hwx
    go_wp2_with fail
    refine bodyPost_ret (by simp [results, Try.results20, go_sem]; try rfl) rfl ?_
    exact ⟨rfl, Below.refl _ _⟩

/-! ### Reset -/
def rst (first : List Nat) (l : List Pr) : Nat → List Pr
  | 0 => l
  | k + 1 => (rst first l k).set k ⟨0, false, ((first.getD k 0 : Nat) : Int)⟩
theorem rst_len (first : List Nat) (l : List Pr) : ∀ k, (rst first l k).length = l.length
  | 0 => rfl
  | k + 1 => by show ((rst first l k).set k _).length = _; rw [List.length_set, rst_len first l k]
theorem rst_at {first : List Nat} {l : List Pr} {j : Nat} (hj : j < l.length) : ∀ k, (rst first l k).getD j Pr.nil = if j < k then ⟨0, false, ((first.getD j 0 : Nat) : Int)⟩ else l.getD j Pr.nil
  | 0 => by rw [if_neg (Nat.not_lt_zero _)]; rfl
  | k + 1 => by
    show ((rst first l k).set k _).getD j Pr.nil = _
    rw [List.getD_eq_getElem?_getD, List.getElem?_set]
    by_cases e : k = j
    · subst e
      rw [if_pos rfl, if_pos (by rw [rst_len]; exact hj), if_pos (by omega)]
      rfl
    · rw [if_neg e, ← List.getD_eq_getElem?_getD, rst_at hj k]
      by_cases h : j < k
      · rw [if_pos h, if_pos (by omega)]
      · rw [if_neg h, if_neg (by omega)]
theorem rst_all {first : List Nat} {l : List Pr} (h : first.length = l.length) : rst first l l.length = first.map fun (x : Nat) => ⟨0, false, (x : Int)⟩ := by
  refine List.ext_getElem (by rw [rst_len, List.length_map, h]) fun j h1 h2 => ?_
  rw [rst_len] at h1
  have h3 := rst_at (first := first) h1 l.length
  rw [if_pos h1, List.getD_eq_getElem?_getD, List.getElem?_eq_getElem (by rw [rst_len]; exact h1), Option.getD_some] at h3
  rw [h3, List.getElem_map, List.getD_eq_getElem?_getD, List.getElem?_eq_getElem (by omega)]
  rfl
theorem TbAt.alls {w w' : World} {g bi ba ci : Nat} {v : Value} {T : Tb} {l' : List Pr} (h : TbAt w g bi ba ci v T) (hl : l'.length = T.l.length) (h1 : AllAt w' ba l') (h2 : Chg (fun x => x = ba) w w') : TbAt w' g bi ba ci v ⟨T.first, l', T.q⟩ := by
  refine ⟨?_, ?_, h2.cell h.c2 h.n2, fun j => (h2.frozen (a := ⟨g, j, none⟩) h.ltg h.n2).trans (h.fz j), fun i hi => h2.cell (h.first i (by rw [← hl]; exact hi)) h.n3, h1, h.row.chg h2 fun x hx e => h.n6 (e ▸ hx), h.n1, h.n2, h.n3, h.n4, h.n5, h.n6, by show 0 < l'.length; rw [hl]; exact h.pos⟩
  · rw [show (Tb.mk T.first l' T.q).l.length = T.l.length from hl]; exact h2.cell h.c0 h.n2
  · rw [show (Tb.mk T.first l' T.q).l.length = T.l.length from hl]; exact h2.cell h.c1 h.n2
set_option maxHeartbeats 1000000 in
theorem reset_any {g bi ba ci : Nat} {v : Value} {T : Tb} (w : World) (h : TbAt w g bi ba ci v T) (hf : T.first.length = T.l.length) (hm : T.l.length ≤ 16) (hx : ∀ x ∈ T.first, x ≤ 255) : Calls Try.prog 22 #[.pointer (some ⟨g, 0, none⟩)] w fun e w' => VoidP g bi ba ci v T.reset w e w' := by
  have HS := Lib.hid (fun x W => stopped_any x W)
  have H := Lib.hid h
  have c0 := h.c0
  have c1 := h.c1
  obtain ⟨n, hn⟩ : ∃ n, n = T.l.length := ⟨_, rfl⟩
  rw [← hn] at c0 c1 hm
  have HN := Lib.hid (And.intro hn (And.intro hf hx))
  have hgb : ¬ g = ba := h.n2
  have hib : ¬ bi = ba := h.n3
  clear h hf hx hn
  go_enter Try.func22, Try.ntmps22
  go_wp2_with fail
  go_loopw [9] (fun iv wr => ∃ k : Nat, k ≤ n ∧ iv = .int .i64 k ∧ Hid (AllAt wr ba (rst T.first T.l k) ∧ Chg (fun x => x = ba) w wr)) (fun iv _ => n - (intOf iv).toNat)
  case atStart => exact ⟨0, Nat.zero_le _, rfl, H.out.all, Chg.refl _⟩
  case round =>
    obtain ⟨k, hk, rfl, HI⟩ := hrel
    have r1 := HI.2.cell c1 hgb
    by_cases hlt : k < n
    · have hkl : k < T.l.length := by rw [← HN.out.1]; exact hlt
      have b0 := HI.2.cell (H.out.first k hkl) hib
      have hxl : T.first.getD k 0 ≤ 255 := by
        rw [List.getD_eq_getElem?_getD, List.getElem?_eq_getElem (by rw [HN.out.2.1]; exact hkl)]
        exact HN.out.2.2 _ (List.getElem_mem _)
      obtain ⟨x, hx⟩ : ∃ x, x = T.first.getD k 0 := ⟨_, rfl⟩
      rw [← hx] at b0 hxl
      have hkr : k < (rst T.first T.l k).length := by rw [rst_len]; exact hkl
      have hd : AllAt wr.drew ba (rst T.first T.l k) := HI.1.same rfl
      have hmm := mk1_all hd ⟨0, false, (x : Int)⟩
      obtain ⟨d0, d1, d2⟩ := hmm.at hkr
      have f0 := hmm.fz (k * 3)
      have f1 := hmm.fz (k * 3 + 1)
      have f2 := hmm.fz (k * 3 + 2)
      have HF := Lib.hid (become3 hmm hkr (((below_dn wr 1).trans (mk1_bel wr.drew _)) : Below wr.heap.size wr (mk1 wr.drew _)) ⟨0, false, (x : Int)⟩)
      have m1 : (mk1 wr.drew ⟨0, false, (x : Int)⟩).cell? ⟨g, 1, none⟩ = some (.slice (some ⟨ba, 0, none⟩) n n) := kept (w := wr.drew) r1 (mk1_bel wr.drew _)
      obtain ⟨p0, hp0⟩ : ∃ p0, p0 = (rst T.first T.l k).getD k Pr.nil := ⟨_, rfl⟩
      rw [← hp0] at d0 d1 d2
      have HX := Lib.hid hx
      have i0 : (0 : Int) ≤ (k : Int) := Int.natCast_nonneg _
      have i1 : (k : Int) < (n : Int) := by omega
      have i2 : IntKind.i64.wrap (x : Int) = (x : Int) := by rw [IntKind.wrap_i64]; omega
      clear hd hmm hkr hp0 hx hkl
      go_wp2_with fail
      go_region_law ((go_simp; (with_reducible refine (HS.out _ _).mono ?_); (rintro e w1 ⟨rfl, hw⟩); (rw [← hw] at d0 d1 d2 f0 f1 f2 m1 HF); clear hw))
      all_goals go_wp2_with fail
      all_goals go_roundw
      all_goals first
        | exact ⟨k + 1, by omega, by go_num, by
            show AllAt _ ba ((rst T.first T.l k).set k ⟨0, false, ((T.first.getD k 0 : Nat) : Int)⟩) ∧ _
            rw [← HX.out]
            exact ⟨HF.out.1, HI.2.trans HF.out.2⟩⟩
        | (simp [intOf]; omega)
    · obtain rfl : k = n := by omega
      have hT := H.out.alls (rst_len T.first T.l k) HI.1 HI.2
      have e2 : rst T.first T.l k = T.reset.l := by rw [HN.out.1]; exact rst_all HN.out.2.1
      have q2 := hT.c2
      have f2 := hT.fz 2
      have hQ := hT.queue (Below.refl _ wr) (Nums.nil wr) (Chg.refl wr) (fun x e => by cases e)
      have HF : Hid (VoidP g bi ba ci v T.reset w (.returned (.tuple #[])) (wr.setCell ⟨g, 2, none⟩ (.slice none 0 0))) := by
        refine ⟨rfl, TbP.trans (HI.2.mono fun x hx => .inr (.inr (.inl hx))) (Slid.refl v w) ?_⟩
        have e3 : T.reset = ⟨T.first, rst T.first T.l k, []⟩ := by rw [e2]; rfl
        rw [e3]
        exact hQ
      clear hT hQ e2 HI
      go_wp2_with fail
      go_end0
      exact HF.out
end Go.Proofs.Ytkbafiepnnldeaa
