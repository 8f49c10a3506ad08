/-
  The statement's lists: few, the same, which messages were sent and which received.
-/
import Derived.Test.YtnmobalgghggnaaDoorTell
namespace Go.Proofs.YtnmobalgghggnaaDoor
open Go.RowKit

/-- Truths in a list. -/
def Bools (H : Nat) (w : World) (A : Option Addr) (L : List Bool) : Prop := ∀ i (h : i < L.length), ∃ b o, A = some ⟨b, o, none⟩ ∧ b < H ∧ w.cell? ⟨b, o + i, none⟩ = some (.bool L[i])
theorem Bools.keep {H : Nat} {w w' : World} {A : Option Addr} {L : List Bool} (h : Bools H w A L) (hB : Below H w w') : Bools H w' A L := fun i hi => by
  obtain ⟨b, o, e, hb, hc⟩ := h i hi
  exact ⟨b, o, e, hb, by rw [hB.cell (p := ⟨b, o + i, none⟩) hb]; exact hc⟩
theorem Bools.head {H : Nat} {w : World} {A : Option Addr} {L : List Bool} (h : Bools H w A L) {i : Nat} (hi : i < L.length) : ∃ b o, A = some ⟨b, o, none⟩ := by
  obtain ⟨b, o, e, _⟩ := h i hi
  exact ⟨b, o, e⟩
theorem Bools.cell {H : Nat} {w : World} {b o : Nat} {L : List Bool} (h : Bools H w (some ⟨b, o, none⟩) L) {i : Nat} (hi : i < L.length) : w.cell? ⟨b, o + i, none⟩ = some (.bool (L.getD i false)) := by
  obtain ⟨b', o', e, _, hc⟩ := h i hi
  injection e with e
  injection e with e1 e2
  subst e1 e2
  rw [hc, List.getD_eq_getElem?_getD, List.getElem?_eq_getElem hi, Option.getD_some]
theorem RowL.bools {w : World} {d : Nat} {L : List Bool} (h : RowL w d 4 (L.map Value.bool)) : Bools w.heap.size w (some ⟨d, 0, none⟩) L := fun i hi => by
  refine ⟨d, 0, rfl, World.rowIs.lt h, ?_⟩
  rw [Nat.zero_add, RowL.cell h (by rw [List.length_map]; exact hi), List.getElem_map]
theorem RowL.strs {w : World} {d : Nat} {L : List ByteArray} (h : RowL w d 9 (L.map Value.string)) : Strs w.heap.size w (some ⟨d, 0, none⟩) L := fun i hi => by
  refine ⟨d, 0, rfl, World.rowIs.lt h, ?_⟩
  rw [Nat.zero_add, RowL.cell h (by rw [List.length_map]; exact hi), List.getElem_map]
theorem Grow.strs {w : World} {g n cap : Nat} {L : List ByteArray} (h : Grow w 9 (.slice (some ⟨g, 0, none⟩) n cap) (L.map Value.string)) : Strs w.heap.size w (some ⟨g, 0, none⟩) L := fun i hi => by
  refine ⟨g, 0, rfl, h.lt rfl, ?_⟩
  rw [Nat.zero_add]
  exact h.at (by rw [List.getElem?_map, List.getElem?_eq_getElem hi, Option.map_some])
theorem Bools.up {H H' : Nat} {w : World} {A : Option Addr} {L : List Bool} (h : Bools H w A L) (hH : H ≤ H') : Bools H' w A L := fun i hi => by
  obtain ⟨b, o, e, hb, hc⟩ := h i hi
  exact ⟨b, o, e, by omega, hc⟩
/-- Few enough, and short. -/
def Few (L : List ByteArray) : Prop := L.length ≤ 20 ∧ ∀ i, i < L.length → (L.getD i ByteArray.empty).size ≤ 40
def FewP (L : List ByteArray) (w : World) (e : Ending) (w' : World) : Prop := ∃ x : Bool, e = .returned (.bool x) ∧ (x = true → Few L) ∧ w = w'
set_option maxHeartbeats 2000000 in
theorem few_any (A : Option Addr) (L : List ByteArray) (n ca H : Nat) (w : World) (hA : Strs H w A L) (hn : n = L.length) (hs : ∀ i, i < L.length → (L.getD i ByteArray.empty).size ≤ 9223372036854775807) :
    Calls Tryd.prog 8 #[.slice A n ca] w fun e w' => FewP L w e w' := by
  have HA := Lib.hid hA
  have HN := Lib.hid hn
  have HS := Lib.hid hs
  clear hA hn hs
  by_cases h20 : (20 : Int) < n
  · go_enter Tryd.func8, Tryd.ntmps8
    go_wp2_with fail
    go_ret
    exact ⟨false, rfl, fun h => Bool.noConfusion h, rfl⟩
  · have h20' : n ≤ 20 := by omega
    go_enter Tryd.func8, Tryd.ntmps8
    go_wp2_with fail
    go_loop [3] (fun i => ∃ k : Nat, k ≤ n ∧ i = .int .i64 k ∧ ∀ j, j < k → (L.getD j ByteArray.empty).size ≤ 40) (fun i => n - (intOf i).toNat)
    case atStart => exact ⟨0, Nat.zero_le _, rfl, fun j hj => absurd hj (by omega)⟩
    case round =>
      obtain ⟨k, hk, rfl, hgk⟩ := hrel
      have HGK := Lib.hid hgk
      clear hgk
      by_cases hlt : k < n
      · have hkL : k < L.length := by rw [← HN.out]; exact hlt
        obtain ⟨b, o, rfl⟩ := HA.out.head hkL
        have c0 := HA.out.cell hkL
        have hs := HS.out k hkL
        have HST : Hid ((L.getD k ByteArray.empty).size ≤ 40 → ∀ j, j < k + 1 → (L.getD j ByteArray.empty).size ≤ 40) := Lib.hid (fun h j hj => by
          by_cases e : j = k
          · subst e; exact h
          · exact HGK.out j (by omega))
        generalize L.getD k ByteArray.empty = m at *
        have hkn : (k : Int) < n := by omega
        clear hkL
        by_cases h40 : (40 : Int) < m.size
        · go_wp2_with fail
          go_ret
          exact ⟨false, rfl, fun h => Bool.noConfusion h, rfl⟩
        · have HM := Lib.hid (HST.out (by omega))
          go_wp2_with fail
          go_round
          case rel => exact ⟨k + 1, by omega, by go_num, HM.out⟩
          case measure => simp [intOf]; omega
      · obtain rfl : k = n := by omega
        go_wp2_with fail
        go_ret
        exact ⟨true, rfl, fun _ => ⟨by rw [← HN.out]; exact h20', fun j hj => HGK.out j (by rw [HN.out]; exact hj)⟩, rfl⟩
set_option maxHeartbeats 2000000 in
theorem sames_same (A1 A2 : Option Addr) (L : List Bool) (n c1 c2 H : Nat) (w : World) (h1 : Bools H w A1 L) (h2 : Bools H w A2 L) (hn : n = L.length) (hb : n ≤ 100000) :
    Calls Tryd.prog 23 #[.slice A1 n c1, .slice A2 n c2] w fun e w' => e = .returned (.bool true) ∧ ∃ m, w' = w.drewN m := by
  have H1 := Lib.hid h1
  have H2 := Lib.hid h2
  have HN := Lib.hid hn
  clear h1 h2 hn
  go_enter Tryd.func23, Tryd.ntmps23
  go_wp2_with fail
  go_loopw [5] (fun i wr => (∃ k : Nat, k ≤ n ∧ i = .int .i64 k) ∧ Qt w wr) (fun i _ => n - (intOf i).toNat)
  case atStart => exact ⟨⟨0, Nat.zero_le _, rfl⟩, Qt.refl _⟩
  case round =>
    obtain ⟨⟨k, hk, rfl⟩, hq⟩ := hrel
    have HQ := Lib.hid hq
    by_cases hlt : k < n
    · have hkL : k < L.length := by rw [← HN.out]; exact hlt
      obtain ⟨b1, o1, rfl⟩ := H1.out.head hkL
      obtain ⟨b2, o2, rfl⟩ := H2.out.head hkL
      have e1 := (H1.out.keep hq.below).cell hkL
      have e2 := (H2.out.keep hq.below).cell hkL
      have hkn : (k : Int) < n := by omega
      generalize L.getD k false = x at *
      clear hkL hq
      cases x
      all_goals
        go_wp2_with fail
        go_quiet (fail)
        have HQ2 := Lib.hid (show Qt w (wr.drewN nq) from by obtain ⟨m, hm⟩ := HQ.out; exact ⟨m + nq, by rw [hm, World.drewN_drewN]⟩)
        go_wp2_with fail
        go_roundw
        case rel => exact ⟨⟨k + 1, by omega, by go_num⟩, HQ2.out⟩
        case measure => simp [intOf]; omega
    · obtain rfl : k = n := by omega
      clear hq
      go_wp2_with fail
      go_ret
      exact ⟨rfl, HQ.out⟩
set_option maxHeartbeats 2000000 in
theorem texts_same (A1 A2 : Option Addr) (L : List ByteArray) (n c1 c2 H : Nat) (w : World) (h1 : Strs H w A1 L) (h2 : Strs H w A2 L) (hn : n = L.length) (hb : n ≤ 100000) :
    Calls Tryd.prog 24 #[.slice A1 n c1, .slice A2 n c2] w fun e w' => e = .returned (.bool true) ∧ ∃ m, w' = w.drewN m := by
  have H1 := Lib.hid h1
  have H2 := Lib.hid h2
  have HN := Lib.hid hn
  clear h1 h2 hn
  go_enter Tryd.func24, Tryd.ntmps24
  go_wp2_with fail
  go_loopw [5] (fun i wr => (∃ k : Nat, k ≤ n ∧ i = .int .i64 k) ∧ Qt w wr) (fun i _ => n - (intOf i).toNat)
  case atStart => exact ⟨⟨0, Nat.zero_le _, rfl⟩, Qt.refl _⟩
  case round =>
    obtain ⟨⟨k, hk, rfl⟩, hq⟩ := hrel
    have HQ := Lib.hid hq
    by_cases hlt : k < n
    · have hkL : k < L.length := by rw [← HN.out]; exact hlt
      obtain ⟨b1, o1, rfl⟩ := H1.out.head hkL
      obtain ⟨b2, o2, rfl⟩ := H2.out.head hkL
      have e1 := (H1.out.keep hq.below).cell hkL
      have e2 := (H2.out.keep hq.below).cell hkL
      have hkn : (k : Int) < n := by omega
      generalize L.getD k ByteArray.empty = x at *
      clear hkL hq
      all_goals
        go_wp2_with fail
        go_quiet (fail)
        have HQ2 := Lib.hid (show Qt w (wr.drewN nq) from by obtain ⟨m, hm⟩ := HQ.out; exact ⟨m + nq, by rw [hm, World.drewN_drewN]⟩)
        go_wp2_with fail
        go_roundw
        case rel => exact ⟨⟨k + 1, by omega, by go_num⟩, HQ2.out⟩
        case measure => simp [intOf]; omega
    · obtain rfl : k = n := by omega
      clear hq
      go_wp2_with fail
      go_ret
      exact ⟨rfl, HQ.out⟩
/-- Of the first so many messages those that were sent. -/
def outK (L : List ByteArray) (sent : List Bool) : Nat → List ByteArray
  | 0 => []
  | k + 1 => if sent.getD k false = true then outK L sent k ++ [L.getD k ByteArray.empty] else outK L sent k
/-- Of the first so many tries what was received. -/
def inK (got : List ByteArray) : Nat → List ByteArray
  | 0 => []
  | k + 1 => if (got.getD k ByteArray.empty).size = 0 then inK got k else inK got k ++ [got.getD k ByteArray.empty]
theorem outK_le (L : List ByteArray) (sent : List Bool) : ∀ k, (outK L sent k).length ≤ k
  | 0 => Nat.le_refl _
  | k + 1 => by
    have := outK_le L sent k
    simp only [outK]
    split
    · simp; omega
    · omega
theorem inK_le (got : List ByteArray) : ∀ k, (inK got k).length ≤ k
  | 0 => Nat.le_refl _
  | k + 1 => by
    have := inK_le got k
    simp only [inK]
    split
    · omega
    · simp; omega
/-- What passed leaves. -/
def PassP (O I : List ByteArray) (w : World) (e : Ending) (w' : World) : Prop :=
  ∃ A1 c1 A2 c2, e = .returned (.tuple #[.slice A1 O.length c1, .slice A2 I.length c2]) ∧ Strs w'.heap.size w' A1 O ∧ Strs w'.heap.size w' A2 I ∧ O.length ≤ c1 ∧ Below w.heap.size w w'
/-- A row of strings that is there, at or behind a block. -/
def Lit (H : Nat) (w : World) (v : Value) (L : List ByteArray) : Prop := Grow w 9 v (L.map Value.string) ∧ ∃ g cap, v = .slice (some ⟨g, 0, none⟩) L.length cap ∧ H ≤ g ∧ g < w.heap.size ∧ L.length ≤ cap
theorem Lit.grow {H : Nat} {w w2 : World} {v : Value} {L : List ByteArray} {m : ByteArray} {g' cap' : Nat} (h : Lit H w v L) (hg : Grow w2 9 (.slice (some ⟨g', 0, none⟩) (L.length + 1) cap') (L.map Value.string ++ [.string m])) (hat : v.ownBlock = some g' ∨ w.heap.size ≤ g') (hlt : g' < w2.heap.size) :
    Lit H w2 (.slice (some ⟨g', 0, none⟩) (L.length + 1) cap') (L ++ [m]) := by
  obtain ⟨_, g, cap, rfl, h1, h2, h3⟩ := h
  have e : (L ++ [m]).map Value.string = L.map Value.string ++ [.string m] := by simp
  refine ⟨by rw [e]; exact hg, g', cap', by simp, ?_, hlt, ?_⟩
  · rcases hat with h | h
    · injection h with h
      have h : g = g' := h
      omega
    · omega
  · rcases hg.shape with ⟨h, _⟩ | ⟨g2, cap2, h, _, _, h4⟩
    · cases h
    · injection h with _ _ h
      subst h
      simp at h4 ⊢
      omega
theorem Lit.chg {H : Nat} {w w' : World} {v : Value} {L : List ByteArray} {K : Nat → Prop} (h : Lit H w v L) (hC : Chg K w w') (hK : ∀ x, v.ownBlock = some x → ¬ K x) : Lit H w' v L := by
  obtain ⟨h0, g, cap, rfl, h1, h2, h3⟩ := h
  exact ⟨h0.chg hC hK, g, cap, rfl, h1, Nat.lt_of_lt_of_le h2 hC.size, h3⟩
theorem lit_nil (w : World) : Lit w.heap.size (w.alloc (.cells #[] 9)) (.slice (some ⟨w.heap.size, 0, none⟩) 0 0) [] := by
  refine ⟨⟨rfl, .inr ⟨w.heap.size, 0, #[], rfl, Nat.zero_le _, heap_alloc_new _ _, Nat.le_refl _, by decide, rfl, rfl⟩⟩, _, _, rfl, Nat.le_refl _, by simp, Nat.le_refl _⟩
/-- Two rows that grow side by side, behind a world. -/
structure TwoL (w0 w : World) (v1 : Value) (L1 : List ByteArray) (v2 : Value) (L2 : List ByteArray) : Prop where
  a : Lit w0.heap.size w v1 L1
  b : Lit w0.heap.size w v2 L2
  ne : ∀ x, v1.ownBlock = some x → v2.ownBlock ≠ some x
  bel : Below w0.heap.size w0 w
theorem Lit.lt {H : Nat} {w : World} {v : Value} {L : List ByteArray} (h : Lit H w v L) {x : Nat} (hx : v.ownBlock = some x) : x < w.heap.size ∧ H ≤ x := by
  obtain ⟨_, g, cap, rfl, h1, h2, _⟩ := h
  injection hx with hx
  have hx : g = x := hx
  omega
theorem TwoL.one {w0 w w2 : World} {v1 v2 : Value} {L1 L2 : List ByteArray} {m : ByteArray} {g' cap' : Nat} (h : TwoL w0 w v1 L1 v2 L2) (hg : Grow w2 9 (.slice (some ⟨g', 0, none⟩) (L1.length + 1) cap') (L1.map Value.string ++ [.string m])) (hC : Chg (fun x => v1.ownBlock = some x) w w2) (hat : v1.ownBlock = some g' ∨ w.heap.size ≤ g') (hlt : g' < w2.heap.size) :
    TwoL w0 w2 (.slice (some ⟨g', 0, none⟩) (L1.length + 1) cap') (L1 ++ [m]) v2 L2 :=
  ⟨h.a.grow hg hat hlt, h.b.chg hC (fun x hx hk => h.ne x hk hx), fun x hx hy => by
    injection hx with hx
    have hx : g' = x := hx
    subst hx
    rcases hat with e | e
    · exact h.ne _ e hy
    · have := (h.b.lt hy).1; omega, h.bel.trans (hC.below (fun x hx => (h.a.lt hx).2) h.bel.size)⟩
theorem TwoL.swap {w0 w : World} {v1 v2 : Value} {L1 L2 : List ByteArray} (h : TwoL w0 w v1 L1 v2 L2) : TwoL w0 w v2 L2 v1 L1 := ⟨h.b, h.a, fun x hx hy => h.ne x hy hx, h.bel⟩
theorem two_nil (w : World) : TwoL w ((w.alloc (.cells #[] 9)).alloc (.cells #[] 9)) (.slice (some ⟨w.heap.size, 0, none⟩) 0 0) [] (.slice (some ⟨w.heap.size + 1, 0, none⟩) 0 0) [] := by
  have h1 := lit_nil w
  have h2 := lit_nil (w.alloc (.cells #[] 9))
  rw [show (w.alloc (.cells #[] 9)).heap.size = w.heap.size + 1 by simp] at h2
  refine ⟨h1.chg (K := fun _ => False) (Chg.of_below ((Below.refl _ _).alloc (Nat.le_refl _) _)) (fun _ _ => id), ⟨h2.1, ?_⟩, fun x hx hy => ?_, ((Below.refl _ _).alloc (Nat.le_refl _) _).alloc (by simp) _⟩
  · obtain ⟨g, cap, e, h3, h4, h5⟩ := h2.2
    exact ⟨g, cap, e, by omega, h4, h5⟩
  · injection hx with hx
    injection hy with hy
    have hx : w.heap.size = x := hx
    have hy : w.heap.size + 1 = x := hy
    omega
theorem Lit.strs {H : Nat} {w : World} {v : Value} {L : List ByteArray} (h : Lit H w v L) : ∃ A c, v = .slice A L.length c ∧ Strs w.heap.size w A L ∧ L.length ≤ c := by
  obtain ⟨h0, g, cap, rfl, _, _, h3⟩ := h
  exact ⟨_, _, rfl, h0.strs, h3⟩
set_option maxHeartbeats 8000000 in
set_option maxRecDepth 100000 in
theorem passed_any (A1 A2 A3 : Option Addr) (L : List ByteArray) (sent : List Bool) (got : List ByteArray) (n c1 c2 c3 ns ng : Nat) (w : World) (hL : Strs w.heap.size w A1 L) (hS : Bools w.heap.size w A2 sent) (hG : Strs w.heap.size w A3 got) (hn : n = L.length) (hns : ns = sent.length) (hng : ng = got.length) (hle : ns ≤ n) (hb : n ≤ 100000 ∧ ng ≤ 100000) :
    Calls Tryd.prog 26 #[.slice A1 n c1, .slice A2 ns c2, .slice A3 ng c3] w fun e w' => PassP (outK L sent ns) (inK got ng) w e w' := by
  have HL := Lib.hid hL
  have HS := Lib.hid hS
  have HG := Lib.hid hG
  have HN := Lib.hid (And.intro hn (And.intro hns (And.intro hng hb)))
  clear hL hS hG hn hns hng hb
  go_enter Tryd.func26, Tryd.ntmps26
  go_wp2_with fail
  go_loopw [8, 10] (fun v i wr => ∃ k : Nat, k ≤ ns ∧ i = .int .i64 k ∧ TwoL w wr v (outK L sent k) (.slice (some ⟨w.heap.size + 1, 0, none⟩) 0 0) []) (fun _ i _ => ns - (intOf i).toNat)
  case atStart => exact ⟨0, Nat.zero_le _, rfl, two_nil w⟩
  case round =>
    obtain ⟨k, hk, rfl, hT⟩ := hrel
    have HT := Lib.hid hT
    by_cases hlt : k < ns
    · have hkS : k < sent.length := by rw [← HN.out.2.1]; exact hlt
      have hkL : k < L.length := by rw [← HN.out.1]; omega
      obtain ⟨b2, o2, rfl⟩ := HS.out.head hkS
      obtain ⟨b1, o1, rfl⟩ := HL.out.head hkL
      have e2 := (HS.out.keep hT.bel).cell hkS
      have e1 := (HL.out.keep hT.bel).cell hkL
      have hkn : (k : Int) < n := by omega
      have hkns : (k : Int) < ns := by omega
      have hkb : k ≤ 100000 := by have := HN.out.2.2.2; omega
      have hst : outK L sent (k + 1) = if sent.getD k false = true then outK L sent k ++ [L.getD k ByteArray.empty] else outK L sent k := rfl
      have HO := Lib.hid (outK_le L sent k)
      generalize L.getD k ByteArray.empty = x at *
      generalize sent.getD k false = y at *
      generalize outK L sent k = O at *
      have HST := Lib.hid hst
      clear hkS hkL hT hst
      cases y
      · go_wp2_with fail
        go_roundw
        case rel => exact ⟨k + 1, by omega, by go_num, by rw [HST.out]; exact HT.out⟩
        case measure => simp [intOf]; omega
      · go_wp2_with (at_builtin; refine wpList_app rfl _ _ 24 9 (.string ⟨#[]⟩) 16 rfl Tryd.underlying24 info9 rfl (by decide) (u := .string x) HT.out.a.1 (by rw [List.length_map]; have := HN.out.2.2.2; have := HO.out; omega) rfl (by rfl) (by rfl) ?_)
        intro g' cap' w2 hg2 hC2 hat2 hlt2
        have HT2 := Lib.hid (HT.out.one hg2 hC2 hat2 hlt2)
        clear hg2 hC2 hat2 hlt2 e1 e2
        go_wp2_with fail
        go_roundw
        case rel => exact ⟨k + 1, by omega, by go_num, by rw [HST.out]; exact HT2.out⟩
        case measure => simp [intOf]; omega
    · obtain rfl : k = ns := by omega
      have hkns : ¬ (k : Int) < k := by omega
      clear hT
      go_wp2_with fail
      go_loopw [9, 11] (fun v2 i wr2 => ∃ j : Nat, j ≤ ng ∧ i = .int .i64 j ∧ TwoL w wr2 u8 (outK L sent k) v2 (inK got j)) (fun _ i _ => ng - (intOf i).toNat)
      case atStart => exact ⟨0, Nat.zero_le _, rfl, HT.out⟩
      case round =>
        obtain ⟨j, hj, rfl, hT⟩ := hrel
        have HT2 := Lib.hid hT
        by_cases hlt : j < ng
        · have hjG : j < got.length := by rw [← HN.out.2.2.1]; exact hlt
          obtain ⟨b3, o3, rfl⟩ := HG.out.head hjG
          have e3 := (HG.out.keep hT.bel).cell hjG
          have hjn : (j : Int) < ng := by omega
          have hjb : j ≤ 100000 := by have := HN.out.2.2.2; omega
          have hst : inK got (j + 1) = if (got.getD j ByteArray.empty).size = 0 then inK got j else inK got j ++ [got.getD j ByteArray.empty] := rfl
          have HO := Lib.hid (inK_le got j)
          generalize got.getD j ByteArray.empty = x at *
          generalize inK got j = I at *
          have HST := Lib.hid hst
          clear hjG hT hst
          by_cases hx : x.size = 0
          · have hb : (x.toList == []) = true := by
              rw [ByteArray.toList_eq]
              have : x.data.toList = [] := List.length_eq_zero_iff.1 (by rw [Array.length_toList]; exact hx)
              rw [this]; rfl
            have HX := Lib.hid hx
            clear hx
            go_wp2_with fail
            go_roundw
            case rel => exact ⟨j + 1, by omega, by go_num, by rw [HST.out, if_pos HX.out]; exact HT2.out⟩
            case measure => simp [intOf]; omega
          · have hb : (x.toList == []) = false := by
              rw [ByteArray.toList_eq, beq_eq_false_iff_ne]
              intro h
              exact hx (by have := congrArg List.length h; rw [Array.length_toList] at this; exact this)
            have HX := Lib.hid hx
            clear hx
            go_wp2_with (at_builtin; refine wpList_app rfl _ _ 24 9 (.string ⟨#[]⟩) 16 rfl Tryd.underlying24 info9 rfl (by decide) (u := .string x) HT2.out.b.1 (by rw [List.length_map]; have := HN.out.2.2.2; have := HO.out; omega) rfl (by rfl) (by rfl) ?_)
            intro g' cap' w2 hg2 hC2 hat2 hlt2
            have HT3 := Lib.hid (HT2.out.swap.one hg2 hC2 hat2 hlt2).swap
            clear hg2 hC2 hat2 hlt2 e3
            go_wp2_with fail
            go_roundw
            case rel => exact ⟨j + 1, by omega, by go_num, by rw [HST.out, if_neg HX.out]; exact HT3.out⟩
            case measure => simp [intOf]; omega
        · obtain rfl : j = ng := by omega
          clear hT
          obtain ⟨A1', c1', rfl, hs1, hc1⟩ := HT2.out.a.strs
          obtain ⟨A2', c2', rfl, hs2, hc2⟩ := HT2.out.b.strs
          have HF := Lib.hid (And.intro hs1 (And.intro hs2 (And.intro hc1 HT2.out.bel)))
          clear hs1 hs2 hc1 hc2
          go_wp2_with fail
          go_ret2
          exact ⟨A1', c1', A2', c2', rfl, HF.out.1, HF.out.2.1, HF.out.2.2.1, HF.out.2.2.2⟩
end Go.Proofs.YtnmobalgghggnaaDoor
