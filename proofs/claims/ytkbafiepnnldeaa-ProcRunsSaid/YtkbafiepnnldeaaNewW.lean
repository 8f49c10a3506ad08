/-
  A new table: the greatest of the priorities, their copy; New.
-/
import Derived.Test.YtkbafiepnnldeaaTabW
namespace Go.Proofs.Ytkbafiepnnldeaa
open Go.RowKit

/-- Bytes in a list from an address on. -/
def UAt (w : World) (A : Option Addr) (l : List Nat) : Prop := ∀ i, i < l.length → ∃ b o, A = some ⟨b, o, none⟩ ∧ w.cell? ⟨b, o + i, none⟩ = some (uV (l.getD i 0))
theorem UAt.keep {w w' : World} {A : Option Addr} {l : List Nat} (h : UAt w A l) (hB : Below w.heap.size w w') : UAt w' A l := fun i hi => by
  obtain ⟨b, o, e, hc⟩ := h i hi
  exact ⟨b, o, e, kept hc hB⟩
theorem UAt.head {w : World} {A : Option Addr} {l : List Nat} (h : UAt w A l) (hl : 0 < l.length) : ∃ b o, A = some ⟨b, o, none⟩ := by
  obtain ⟨b, o, e, _⟩ := h 0 hl
  exact ⟨b, o, e⟩
theorem UAt.cell {w : World} {b o : Nat} {l : List Nat} (h : UAt w (some ⟨b, o, none⟩) l) {i : Nat} (hi : i < l.length) : w.cell? ⟨b, o + i, none⟩ = some (uV (l.getD i 0)) := by
  obtain ⟨b', o', e, hc⟩ := h i hi
  injection e with e
  injection e with e1 e2
  subst e1 e2
  exact hc
theorem getU_of {l : List Nat} {j : Nat} (h : j < l.length) : l[j]? = some (l.getD j 0) := by
  rw [List.getD_eq_getElem?_getD, List.getElem?_eq_getElem h]
  rfl
set_option maxHeartbeats 1000000 in
theorem max_any (A : Option Addr) (c : Nat) (l : List Nat) (w : World) (hA : UAt w A l) (hn : 0 < l.length) (hc : l.length ≤ 1000) : Calls Try.prog 23 #[.slice A l.length c] w fun e w' => ∃ m : Nat, e = .returned (uV m) ∧ (∀ x ∈ l, x ≤ m) ∧ m ∈ l ∧ w = w' := by
  obtain ⟨b, o, rfl⟩ := hA.head hn
  have k0 := hA.cell (i := 0) hn
  rw [Nat.add_zero] at k0
  have HA := Lib.hid hA
  obtain ⟨n, hnn⟩ : ∃ n, n = l.length := ⟨_, rfl⟩
  have HN := Lib.hid hnn
  rw [← hnn] at hn hc ⊢
  have i0 : ¬ (n : Int) < 1 := by omega
  have i1 : (0 : Int) < (n : Int) := by omega
  obtain ⟨x0, hx0⟩ : ∃ x0, x0 = l.getD 0 0 := ⟨_, rfl⟩
  rw [← hx0] at k0
  have HX0 := Lib.hid hx0
  clear hA hnn hx0
  go_enter Try.func23, Try.ntmps23
  go_wp2_with fail
  go_loop [3, 4] (fun mv iv => ∃ k m : Nat, 1 ≤ k ∧ k ≤ n ∧ mv = uV m ∧ iv = .int .i64 k ∧ Hid ((∀ j, j < k → l.getD j 0 ≤ m) ∧ m ∈ l)) (fun _ iv => n - (intOf iv).toNat)
  case atStart => exact ⟨1, x0, Nat.le_refl _, hn, rfl, rfl, fun j hj => by
    obtain rfl : j = 0 := by omega
    rw [← HX0.out]; exact Nat.le_refl _, by
    rw [HX0.out]; exact List.mem_of_getElem? (getU_of (by rw [← HN.out]; exact hn))⟩
  case round =>
    obtain ⟨k, m, hk1, hk, rfl, rfl, HI⟩ := hrel
    by_cases hlt : k < n
    · have hkl : k < l.length := by rw [← HN.out]; exact hlt
      have c0 := HA.out.cell hkl
      obtain ⟨x, hx⟩ : ∃ x, x = l.getD k 0 := ⟨_, rfl⟩
      rw [← hx] at c0
      have HX := Lib.hid hx
      have HKL := Lib.hid hkl
      have i2 : (0 : Int) ≤ (k : Int) := Int.natCast_nonneg _
      have i3 : (k : Int) < (n : Int) := by omega
      clear hx hkl
      go_wp2_with fail
      refine ⟨⟨k + 1, max m x, by omega, by omega, by show Value.int .u8 _ = Value.int .u8 _; congr 1; omega, by go_num, fun j hj => ?_, ?_⟩, by simp [intOf]; omega⟩
      · rcases Nat.lt_or_ge j k with h | h
        · exact Nat.le_trans (HI.1 j h) (by omega)
        · obtain rfl : j = k := by omega
          rw [← HX.out]; omega
      · rcases Nat.le_total m x with h | h
        · rw [Nat.max_eq_right h, HX.out]; exact List.mem_of_getElem? (getU_of HKL.out)
        · rw [Nat.max_eq_left h]; exact HI.2
    · obtain rfl : k = n := by omega
      have HF : Hid ((∀ x ∈ l, x ≤ m) ∧ m ∈ l) := ⟨fun x hx => by
        obtain ⟨j, hj, rfl⟩ := List.getElem_of_mem hx
        have := HI.1 j (by rw [HN.out]; exact hj)
        rw [List.getD_eq_getElem?_getD, List.getElem?_eq_getElem hj] at this
        exact this, HI.2⟩
      clear HI
      go_wp2_with fail
      go_ret
      exact ⟨m, rfl, HF.out.1, HF.out.2, rfl⟩
theorem info5z : ∃ i0, Try.prog.info? 5 = some i0 ∧ i0.zero = some (.int .u8 0) ∧ i0.size = 1 ∧ i0.bytes = 1 := by
  have h : (Try.prog.info? 5).map (fun i => (i.zero, i.size, i.bytes)) = some (some (.int .u8 0), 1, 1) := by kernel_rfl
  cases hq : Try.prog.info? 5 with
  | none => simp [hq] at h
  | some i =>
    simp [hq] at h
    exact ⟨i, rfl, h.1, h.2.1, h.2.2⟩
/-- Bytes of one's own: a block and how many there is room for. -/
def OwnUs (w : World) (v : Value) (l : List Nat) : Prop := w.ownsRow 0 5 1 v l.length (l.map uV)
theorem OwnUs.at {w : World} {v : Value} {l : List Nat} (h : OwnUs w v l) (hl : 0 < l.length) : ∃ b c, v = .slice (some ⟨b, 0, none⟩) l.length c ∧ ∀ i, i < l.length → w.cell? ⟨b, i, none⟩ = some (uV (l.getD i 0)) := by
  rcases h.2 with ⟨h1, h2⟩ | ⟨g, cap, cur, hv, _, hg, hn, hm, hs, ht⟩
  · omega
  · refine ⟨g, cap, hv, fun i hi => ?_⟩
    have h1 : cur[i]? = some (uV (l.getD i 0)) := by
      have ht : cur.toList.take l.length = l.map uV := by simpa using ht
      have h2 : cur.toList[i]? = (l.map uV)[i]? := by rw [← ht, List.getElem?_take_of_lt hi]
      rw [List.getElem?_map, getU_of hi] at h2
      simpa using h2
    simp [World.cell?, hg, h1]
/-- A list of bytes of one's own, new. -/
def FreshU (l : List Nat) (w : World) (e : Ending) (w' : World) : Prop := ∃ v', e = .returned v' ∧ OwnUs w' v' l ∧ Below w.heap.size w w' ∧ ∀ k, v'.ownBlock = some k → w.heap.size ≤ k
theorem one_uV {vs : List Value} {l : List Nat} (e : vs = l.map uV) : ∀ u ∈ vs, u.oneCell' = true := by
  intro u hu
  subst e
  obtain ⟨x, _, rfl⟩ := List.mem_map.1 hu
  rfl
set_option maxRecDepth 100000 in
set_option maxHeartbeats 1000000 in
theorem cloneu_any (a : Addr) (c : Nat) (l : List Nat) (w : World) (hv : UAt w (some a) l) (hn : l.length ≤ 100000) : Calls Try.prog 24 #[.slice (some a) l.length c] w fun e w' => FreshU l w e w' := by
  have q23 := fun (w : World) (a : Option Addr) (n c n' c' : Nat) => Lib.run_eql_slice_nil (P := Try.prog) w 22 5 a n c n' c' Try.underlying22
  obtain ⟨i0, hi, hz0, hz1, hz2⟩ := info5z
  have hown : (w.alloc (.cells #[] 5)).ownsRow w.heap.size 5 1 (.slice (some ⟨w.heap.size, 0, none⟩) 0 0) 0 [] := World.ownsRow_lit w #[] 0 (Nat.le_refl _) (by decide) rfl
  have hB : Below w.heap.size w (w.alloc (.cells #[] 5)) := (Below.refl _ _).alloc (Nat.le_refl _) _
  have hnews : ∀ j u, (l.map uV)[j]? = some u → (w.alloc (.cells #[] 5)).cell? (a.add j) = some u := by
    intro j u hu
    have hj : j < l.length := by have := (List.getElem?_eq_some_iff.1 hu).1; simpa using this
    obtain ⟨b, o, e, hc⟩ := hv j hj
    injection e with e
    subst e
    rw [List.getElem?_map, getU_of hj] at hu
    injection hu with hu
    subst hu
    rw [Go.WideShapes.add_plain]
    exact kept hc hB
  have hone : ∀ u ∈ l.map uV, u.oneCell' = true := one_uV rfl
  obtain ⟨n, hnl⟩ : ∃ n, n = l.length := ⟨_, rfl⟩
  have hlen : (l.map uV).length = n := by simp [hnl]
  rw [← hnl] at hn ⊢
  obtain ⟨xs, hxs⟩ : ∃ xs, xs = l.map uV := ⟨_, rfl⟩
  rw [← hxs] at hnews hone hlen
  have HNW := Lib.hid hnews
  have HB := Lib.hid hB
  have HLN := Lib.hid hlen
  have HON := Lib.hid hone
  have HXS := Lib.hid hxs
  have HNL := Lib.hid hnl
  clear hB hnews hlen hone hxs hnl hv
  go_enter Try.func24, Try.ntmps24
  go_wp2_with (at_builtin; refine wpList_append_own _ rfl _ _ 22 rfl w.heap.size 5 i0 (.int .u8 0) 1 1 Try.underlying22 hi hz0 hz1 hz2 rfl (by decide) _ _ _ rfl hown a n c xs rfl ?c0 ?c1 ?c2 ?c3 ?c4 ?c5 ?_)
  case c0 => rw [HLN.out, Nat.mul_one]
  case c1 => exact HNW.out
  case c2 => exact HON.out
  case c3 => unfold maxLen; simp; omega
  case c4 => simp; omega
  case c5 => simp
  intro v' w1 hown' hgrow _
  have hO : w1.ownsRow w.heap.size 5 1 v' n xs := by simpa using hown'
  have hF : FreshU l w (.returned v') w1 := by
    refine ⟨v', rfl, ?_, HB.out.grown hgrow (by simp) (fun k hk => (World.ownsRow.lt hown k hk).1), fun k hk => (World.ownsRow.lt hO k hk).1⟩
    rw [HXS.out, HNL.out] at hO
    refine ⟨hO.1, ?_⟩
    rcases hO.2 with h1 | ⟨g, cap, cur, hv, hb0, hg, rest⟩
    · exact .inl h1
    · exact .inr ⟨g, cap, cur, hv, Nat.zero_le _, hg, rest⟩
  have HF := Lib.hid hF
  clear hown' hgrow hown hO hF
  go_wp2_with fail
  go_ret
  exact HF.out
theorem info70z : ∃ i0, Try.prog.info? 70 = some i0 ∧ i0.zero = some (.agg #[nV 0, .bool false, nV 0]) ∧ i0.size = 3 ∧ i0.bytes = 24 := by
  have h : (Try.prog.info? 70).map (fun i => (i.zero, i.size, i.bytes)) = some (some (.agg #[nV 0, .bool false, nV 0]), 3, 24) := by kernel_rfl
  cases hq : Try.prog.info? 70 with
  | none => simp [hq] at h
  | some i =>
    simp [hq] at h
    exact ⟨i, rfl, h.1, h.2.1, h.2.2⟩
def mkAll (w : World) (n : Nat) : World := w.alloc (.cells (madeCells #[nV 0, .bool false, nV 0] (n * 3)) 70)
theorem run_make_all (n : Nat) (hn : n ≤ 1000) (w : World) : (Instr.makeSlice 61 (nV (n : Int)) (nV (n : Int))).run Try.prog w = .ok (.slice (some ⟨w.heap.size, 0, none⟩) n n) (mkAll w n) := by
  obtain ⟨i, hi, hz, hs, hb⟩ := info70z
  have hr := run_make (P := Try.prog) w 61 70 i _ Try.underlying61 hi hz .i64 .i64 n n (by omega) (Int.le_refl _) (by rw [hb]; omega) (by omega)
  simp only [Int.toNat_natCast, hs] at hr
  exact hr
theorem all_made (w : World) (n : Nat) : AllAt (mkAll w n) w.heap.size (List.replicate n Pr.nil) := by
  unfold AllAt
  rw [List.length_replicate]
  refine ⟨_, heap_alloc_new w _, size_madeCells _ _, fun i hi => ?_⟩
  have e1 : pf (List.replicate n Pr.nil) i = pc Pr.nil (i % 3) := by
    unfold pf
    rw [List.getD_eq_getElem?_getD, List.getElem?_replicate, if_pos (by omega)]
    rfl
  rw [e1]
  rcases (by omega : i % 3 = 0 ∨ i % 3 = 1 ∨ i % 3 = 2) with h | h | h
  · simp [madeCells, hi, h, pc, Pr.nil]
  · simp [madeCells, hi, h, pc, Pr.nil]
  · simp [madeCells, hi, h, pc, Pr.nil]
theorem mkAll_bel (w : World) (n : Nat) : Below w.heap.size w (mkAll w n) := (Below.refl _ _).alloc (Nat.le_refl _) _
theorem mkAll_size (w : World) (n : Nat) : (mkAll w n).heap.size = w.heap.size + 1 := by unfold mkAll; simp
theorem mkAll_drew (w : World) (n : Nat) : Below w.heap.size w (mkAll w.drew n) := (Below.refl w.heap.size w).drew.trans (show Below w.heap.size w.drew (mkAll w.drew n) from mkAll_bel w.drew n)
/-- What is to be shown behind the making. -/
def Made (l : List Nat) (w : World) (v4 : Value) (wx : World) : Prop := ∃ g bi ba ci, v4 = .pointer (some ⟨g, 0, none⟩) ∧ TbAt wx g bi ba ci (.slice none 0 0) ⟨l, List.replicate l.length Pr.nil, []⟩ ∧ (∀ k, Blk g bi ba (.slice none 0 0) k → w.heap.size ≤ k) ∧ Below w.heap.size w wx
theorem mkTb {w W : World} {bi ba ci : Nat} {l : List Nat} (h0 : 0 < l.length) (ha : AllAt W ba (List.replicate l.length Pr.nil)) (hu : ∀ i, i < l.length → W.cell? ⟨bi, i, none⟩ = some (uV (l.getD i 0))) (hne : bi ≠ ba) (hB : Below w.heap.size w W) (h1 : w.heap.size ≤ bi) (h2 : w.heap.size ≤ ba) :
    Made l w (.pointer (some ⟨W.heap.size, 0, none⟩)) (W.alloc (.cells #[.slice (some ⟨bi, 0, none⟩) l.length ci, .slice (some ⟨ba, 0, none⟩) l.length l.length, .slice none 0 0] 63)) := by
  have hbi := cell_lt (hu 0 h0)
  have hba := ha.lt
  dsimp only at hbi
  have hl : (Tb.mk l (List.replicate l.length Pr.nil) []).l.length = l.length := List.length_replicate
  have hB2 := (Below.refl W.heap.size W).alloc (Nat.le_refl _) (.cells #[.slice (some ⟨bi, 0, none⟩) l.length ci, .slice (some ⟨ba, 0, none⟩) l.length l.length, .slice none 0 0] 63)
  refine ⟨_, bi, ba, ci, rfl, ⟨by rw [hl]; exact al_new _ _ _ 0 _ rfl rfl, by rw [hl]; exact al_new _ _ _ 1 _ rfl rfl, al_new _ _ _ 2 _ rfl rfl, fun j => frozen_at _ _ _ _ _ rfl, fun i hi => kept (hu i (by rw [hl] at hi; exact hi)) hB2, ha.same (hB2.block _ hba), Nums.nil _, by omega, by omega, hne, (fun e => by cases e), (fun e => by cases e), (fun e => by cases e), by rw [hl]; exact h0⟩, fun k hk => ?_, hB.trans (hB2.mono hB.size)⟩
  have := hB.size
  rcases hk with e | e | e | e
  · omega
  · omega
  · omega
  · cases e
theorem newE_many {l : List Nat} (h : l.length < 1 ∨ 16 < l.length) : newE l = 173 := by unfold newE; rw [if_pos h]
theorem newE_prio {l : List Nat} {m : Nat} (h : ¬ (l.length < 1 ∨ 16 < l.length)) (hm : m ∈ l) (h2 : 63 < m) : newE l = 172 := by unfold newE; rw [if_neg h, if_pos ⟨m, hm, h2⟩]
theorem newE_fine {l : List Nat} {m : Nat} (h : ¬ (l.length < 1 ∨ 16 < l.length)) (hm : ∀ x ∈ l, x ≤ m) (h2 : ¬ 63 < m) : newE l = 0 := by
  unfold newE
  rw [if_neg h, if_neg]
  rintro ⟨x, hx, h3⟩
  have := hm x hx
  omega
/-- What New answers. -/
def NewP (l : List Nat) (w : World) (e : Ending) (w' : World) : Prop :=
  (newE l ≠ 0 ∧ e = .returned (.tuple #[.pointer none, nV (newE l)]) ∧ Below w.heap.size w w') ∨
  (newE l = 0 ∧ ∃ g bi ba ci v, e = .returned (.tuple #[.pointer (some ⟨g, 0, none⟩), nV 0]) ∧ TbAt w' g bi ba ci v (Tb.new l) ∧ (∀ k, Blk g bi ba v k → w.heap.size ≤ k) ∧ Below w.heap.size w w')
set_option maxHeartbeats 1000000 in
theorem new_any (A : Option Addr) (c : Nat) (l : List Nat) (w : World) (hA : UAt w A l) (hb : l.length ≤ 140737488355328) : Calls Try.prog 8 #[.slice A l.length c] w fun e w' => NewP l w e w' := by
  by_cases hmany : l.length < 1 ∨ 16 < l.length
  · have HF : Hid (NewP l w (.returned (.tuple #[.pointer none, nV 173])) w) := .inl ⟨by rw [newE_many hmany]; decide, by rw [newE_many hmany], Below.refl _ _⟩
    obtain ⟨n, hn⟩ : ∃ n, n = l.length := ⟨_, rfl⟩
    rw [← hn] at hmany ⊢
    clear hA hb hn
    rcases hmany with h | h
    · have i0 : (n : Int) < 1 := by omega
      clear h
      go_enter Try.func8, Try.ntmps8
      go_wp2_with fail
      go_ret2
      exact HF.out
    · have i0 : ¬ (n : Int) < 1 := by omega
      have i1 : (16 : Int) < (n : Int) := by omega
      clear h
      go_enter Try.func8, Try.ntmps8
      go_wp2_with fail
      go_ret2
      exact HF.out
  · have HM := Lib.hid (max_any A c l w hA (by omega) (by omega))
    have HNM := Lib.hid hmany
    obtain ⟨b, o, rfl⟩ := hA.head (by omega)
    have HCL := Lib.hid (fun W (hB : Below w.heap.size w W) => cloneu_any ⟨b, o, none⟩ c l W (hA.keep hB) (by omega))
    obtain ⟨n, hn⟩ : ∃ n, n = l.length := ⟨_, rfl⟩
    have HN := Lib.hid hn
    rw [← hn] at hmany HM HCL ⊢
    have i0 : ¬ (n : Int) < 1 := by omega
    have i1 : ¬ (16 : Int) < (n : Int) := by omega
    have hmk := fun W => run_make_all n (by omega) W
    clear hA hb hn hmany
    go_enter Try.func8, Try.ntmps8
    go_wp2_with fail
    with_reducible refine HM.out.mono ?_
    rintro e wx ⟨m, rfl, hall, hmem, hwx⟩
    subst hwx
    by_cases h63 : 63 < m
    · have HF : Hid (NewP l w (.returned (.tuple #[.pointer none, nV 172])) w) := .inl ⟨by rw [newE_prio HNM.out hmem h63]; decide, by rw [newE_prio HNM.out hmem h63], Below.refl _ _⟩
      have i2 : (63 : Int) < (m : Int) := by omega
      clear hall hmem h63
      go_wp2_with fail
      go_ret2
      exact HF.out
    · have HE : Hid (newE l = 0) := newE_fine HNM.out hall h63
      have HAL := Lib.hid hall
      have i2 : ¬ (63 : Int) < (m : Int) := by omega
      clear hall hmem h63
      go_wp2_with fail
      go_cut [4] (fun v4 wx => Made l w v4 wx)
      case first =>
        go_region_law ((go_simp; (with_reducible refine (HCL.out _ (by first | exact (Below.refl _ _).drew | exact mkAll_drew _ _)).mono ?_); (rintro e w1 ⟨v', rfl, hO, hB1, hf⟩); (obtain ⟨bi, ci, rfl, hc⟩ := hO.at (by rw [← HN.out]; omega)); (have HO := Lib.hid (And.intro hc (And.intro hB1 (hf _ rfl)))); (rw [← HN.out]); clear hO hc hB1 hf))
        all_goals go_wp2_with fail
        all_goals go_meet
        · have ha := all_made w1 n
          rw [HN.out] at ha ⊢
          have hm := mkAll_bel w1 l.length
          have hs := HO.out.2.1.size
          exact mkTb (by rw [← HN.out]; omega) ha (fun i hi => kept (HO.out.1 i hi) hm) (fun e => by
            have h1 := cell_lt (HO.out.1 0 (by rw [← HN.out]; omega))
            dsimp only at h1
            omega) (((Below.refl w.heap.size w).drew.trans HO.out.2.1).trans (hm.mono hs)) HO.out.2.2 hs
        · have hm : Below w.heap.size w.drew (mkAll w.drew n) := mkAll_bel w.drew n
          have hz := mkAll_size w.drew n
          have hs := HO.out.2.1.size
          have ha := (all_made w.drew n).same (HO.out.2.1.block _ (by rw [hz]; exact Nat.lt_succ_self _))
          have h3 := HO.out.2.2
          rw [HN.out] at ha ⊢
          rw [hz] at h3 hs
          have h3 : w.heap.size + 1 ≤ bi := h3
          exact mkTb (by rw [← HN.out]; omega) ha (fun i hi => HO.out.1 i hi) (fun e => by
            have e : bi = w.heap.size := e
            omega) ((Below.refl w.heap.size w).drew.trans (hm.trans (HO.out.2.1.mono hm.size))) (by omega) (Nat.le_refl _)
      case rest =>
        obtain ⟨g, bi, ba, ci, rfl, hT, hblk, hB⟩ := hcut
        rename World => w2
        have HR := Lib.hid (reset_any w2 hT (by show l.length = (List.replicate l.length Pr.nil).length; rw [List.length_replicate]) (by show (List.replicate l.length Pr.nil).length ≤ 16; rw [List.length_replicate, ← HN.out]; omega) (fun x hx => Nat.le_trans (HAL.out x hx) (by omega)))
        have HBK := Lib.hid hblk
        have HB := Lib.hid hB
        clear hT hblk hB
        go_wp2_with fail
        with_reducible refine HR.out.mono ?_
        rintro e w3 ⟨rfl, v', hT3, hC3, hS3⟩
        have HF : Hid (NewP l w (.returned (.tuple #[.pointer (some ⟨g, 0, none⟩), nV 0])) w3) := by
          refine .inr ⟨HE.out, g, bi, ba, ci, v', rfl, hT3, fun k hk => ?_, HB.out.trans (hC3.below HBK.out HB.out.size)⟩
          have h1 := HB.out.size
          rcases hk with e | e | e | e
          · exact HBK.out k (.inl e)
          · exact HBK.out k (.inr (.inl e))
          · exact HBK.out k (.inr (.inr (.inl e)))
          · rcases hS3 k e with e2 | e2
            · exact HBK.out k (.inr (.inr (.inr e2)))
            · omega
        clear hT3 hC3 hS3
        go_wp2_with fail
        go_ret2
        exact HF.out
end Go.Proofs.Ytkbafiepnnldeaa
