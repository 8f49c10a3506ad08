/-
  Where a waiter stands: slices.BinarySearchFunc over the order's closure; place.
-/
import Derived.Test.YtagfhlnedaagbaaOrdW
import Derived.Deep.LoopGhost
namespace Go.Proofs.Ytagfhlnedaagbaa
open Go.RowKit

theorem Nums.below {w w' : World} {v : Value} {l : List Int} {n : Nat} (h : Nums w v l) (hB : Below n w w') (hn : ∀ x, v.ownBlock = some x → x < n) : Nums w' v l := h.same fun x hx => hB.block _ (hn x hx)
/-- What the search finds: k numbers stand ahead of the one, no other. -/
def Found (l : List Int) (cf : Int → Int) (k : Nat) : Prop := k ≤ l.length ∧ (∀ t, t < k → cf (l.getD t 0) < 0) ∧ (∀ t, k ≤ t → t < l.length → 0 ≤ cf (l.getD t 0))
set_option maxHeartbeats 2000000 in
theorem search_any (K : FuncId) (cap : Array Value) (cf : Int → Int) (v : Value) (l : List Int) (x : Int) (w : World) (hv : Nums w v l) (hK : Enters K) (hn : l.length ≤ 100000)
    (hmono : ∀ a b, a ≤ b → b < l.length → cf (l.getD b 0) < 0 → cf (l.getD a 0) < 0)
    (hcall : ∀ y W, y ∈ l → Below w.heap.size w W → Calls Try.prog K (#[nV y, nV x] ++ cap) W fun e w' => e = .returned (nV (cf y)) ∧ Below W.heap.size W w') :
    Calls Try.prog 39 #[v, nV x, .func (.func K) #[] cap] w fun e w' => ∃ (k : Nat) (q : Bool), e = .returned (.tuple #[nV k, .bool q]) ∧ Found l cf k ∧ Below w.heap.size w w' := by
  obtain ⟨A, c, rfl, hA⟩ := hv.len
  have HV := Lib.hid hv
  have HC := Lib.hid hcall
  have HM := Lib.hid hmono
  have HA := Lib.hid hA
  have eg := hK
  unfold Enters at eg
  obtain ⟨n, hnn⟩ : ∃ n, n = l.length := ⟨_, rfl⟩
  rw [← hnn] at hn ⊢
  have HN := Lib.hid hnn
  clear hnn hv hcall hmono hA hK
  go_enter Try.func39, Try.ntmps39
  go_wp2_with fail
  go_loopw [9, 10] (fun s9 s10 wr => ∃ lo hi : Nat, s9 = .int .i64 lo ∧ s10 = .int .i64 hi ∧ lo ≤ hi ∧ hi ≤ n ∧ Below w.heap.size w wr ∧ Hid ((∀ t, t < lo → cf (l.getD t 0) < 0) ∧ (∀ t, hi ≤ t → t < n → 0 ≤ cf (l.getD t 0)))) (fun s9 s10 _ => (intOf s10).toNat - (intOf s9).toNat)
  case atStart => exact ⟨0, n, rfl, rfl, Nat.zero_le _, Nat.le_refl _, Below.refl _ _, ⟨fun t ht => absurd ht (Nat.not_lt_zero _), fun t h1 h2 => by omega⟩⟩
  case round =>
    obtain ⟨lo, hi, rfl, rfl, hlh, hin, hB, HI⟩ := hrel
    have HB := Lib.hid hB
    clear hB
    by_cases hlt : lo < hi
    · obtain ⟨m, hm⟩ : ∃ m, m = (lo + hi) / 2 := ⟨_, rfl⟩
      have hm1 : lo ≤ m := by omega
      have hm2 : m < hi := by omega
      have hmn : m < l.length := by rw [← HN.out]; omega
      obtain ⟨g, rfl⟩ := HA.out (by omega)
      have cm := (HV.out.keep HB.out).at (n := l.length) (cap := c) hmn
      have HCC := Lib.hid (HC.out (l.getD m 0) wr (by rw [List.getD_eq_getElem?_getD, List.getElem?_eq_getElem hmn]; exact List.getElem_mem hmn) HB.out)
      obtain ⟨y, hy⟩ : ∃ y, y = l.getD m 0 := ⟨_, rfl⟩
      rw [← hy] at cm HCC
      obtain ⟨d, hd⟩ : ∃ d, d = cf y := ⟨_, rfl⟩
      rw [← hd] at HCC
      have HY := Lib.hid hy
      have HD := Lib.hid hd
      have e1 : ((lo : Int) + (hi : Int)) / 2 = (m : Int) := by omega
      have i0 : (0 : Int) ≤ (m : Int) := Int.natCast_nonneg _
      have i1 : (m : Int) < (n : Int) := by omega
      have i2 : (lo : Int) < (hi : Int) := by omega
      have HMM := Lib.hid hm
      clear hy hd hmn hm
      by_cases hneg : d < 0
      · go_wp2_with fail
        refine HCC.out.mono ?_
        rintro e w1 ⟨rfl, hB1⟩
        have HB1 := Lib.hid hB1
        clear hB1
        go_wp2_with fail
        go_roundw
        case rel => exact ⟨m + 1, hi, by go_num, rfl, by omega, by omega, below_two HB.out HB1.out, (fun t ht => HM.out t m (by omega) (by rw [← HN.out]; omega) (by rw [← HY.out, ← HD.out]; exact hneg)), HI.2⟩
        case measure => simp [intOf]; omega
      · go_wp2_with fail
        refine HCC.out.mono ?_
        rintro e w1 ⟨rfl, hB1⟩
        have HB1 := Lib.hid hB1
        clear hB1
        go_wp2_with fail
        go_roundw
        case rel => exact ⟨lo, m, rfl, rfl, by omega, by omega, below_two HB.out HB1.out, HI.1, fun t ht htn => by
          have h := fun h => HM.out m t ht (by rw [← HN.out]; exact htn) h
          rw [← HY.out, ← HD.out] at h
          omega⟩
        case measure => simp [intOf]; omega
    · obtain rfl : lo = hi := by omega
      have HF : Hid (Found l cf lo) := ⟨by rw [← HN.out]; exact hin, HI.1, by rw [← HN.out]; exact HI.2⟩
      clear HI
      by_cases hln : lo < n
      · have hlw : lo < l.length := by rw [← HN.out]; exact hln
        obtain ⟨g, rfl⟩ := HA.out (by omega)
        have cm := (HV.out.keep HB.out).at (n := l.length) (cap := c) hlw
        have HCC := Lib.hid (HC.out (l.getD lo 0) wr (by rw [List.getD_eq_getElem?_getD, List.getElem?_eq_getElem hlw]; exact List.getElem_mem hlw) HB.out)
        obtain ⟨y, hy⟩ : ∃ y, y = l.getD lo 0 := ⟨_, rfl⟩
        rw [← hy] at cm HCC
        obtain ⟨d, hd⟩ : ∃ d, d = cf y := ⟨_, rfl⟩
        rw [← hd] at HCC
        have i0 : (0 : Int) ≤ (lo : Int) := Int.natCast_nonneg _
        have i1 : (lo : Int) < (n : Int) := by omega
        clear hy hd hlw
        go_wp2_with fail
        refine HCC.out.mono ?_
        rintro e w1 ⟨rfl, hB1⟩
        have HB1 := Lib.hid (below_two HB.out hB1)
        clear hB1
        go_wp2_with fail
        go_ret2
        exact ⟨lo, _, rfl, HF.out, HB1.out⟩
      · obtain rfl : lo = n := by omega
        go_wp2_with fail
        go_ret2
        exact ⟨lo, _, rfl, HF.out, HB.out⟩

theorem enters47 : Enters 47 := enters_of Try.func47 rfl rfl
theorem order_any (g : Nat) (w : World) : Calls Try.prog 40 #[.pointer (some ⟨g, 0, none⟩)] w fun e w' => e = .returned (.func (.func 47) #[] #[.pointer (some ⟨w.heap.size, 0, none⟩)]) ∧ w' = w.alloc (.cells #[.pointer (some ⟨g, 0, none⟩)] 23) := by
  go_enter Try.func40, Try.ntmps40
  go_wp2_with fail
  go_ret
  exact ⟨rfl, rfl⟩
def PlaceP (l : List Int) (lk : Int → Int × Int × Int) (x : Int) (w : World) (e : Ending) (w' : World) : Prop := ∃ k : Nat, e = .returned (nV k) ∧ Found l (fun y => ordC lk y x) k ∧ Below w.heap.size w w'
set_option maxHeartbeats 1000000 in
theorem place_any {g b n : Nat} {hs : Int → Bool} {lk : Int → Int × Int × Int} {v : Value} {l : List Int} (x : Int) (hx : I64 x) (w : World) (c0 : w.cell? ⟨g, 0, none⟩ = some (.map (some b))) (c1 : w.cell? ⟨g, 1, none⟩ = some v) (hm : MapAt w b hs lk n)
    (hv : Nums w v l) (hl : ∀ y ∈ l, I64 y) (hn : l.length ≤ 100000) (hmono : ∀ i j, i ≤ j → j < l.length → ordC lk (l.getD j 0) x < 0 → ordC lk (l.getD i 0) x < 0) :
    Calls Try.prog 30 #[.pointer (some ⟨g, 0, none⟩), nV x] w fun e w' => PlaceP l lk x w e w' := by
  have hs := search_any 47 #[.pointer (some ⟨w.heap.size, 0, none⟩)] (fun y => ordC lk y x) v l x (w.alloc (.cells #[.pointer (some ⟨g, 0, none⟩)] 23)).drew (hv.keep ((Below.refl _ _).alloc (Nat.le_refl _) _).drew) enters47 hn hmono
    (fun y W' hy hB' => by
      have hB2 : Below w.heap.size w W' := below_two ((Below.refl _ _).alloc (Nat.le_refl _) _).drew hB'
      have := order1_any y x (hl y hy) hx W' (g := g) (p := w.heap.size) (kept c0 hB2) (hm.keep hB2) (kept (w := (w.alloc (.cells #[.pointer (some ⟨g, 0, none⟩)] 23)).drew) (al_new w _ _ 0 _ rfl rfl) hB')
      exact this.mono fun _ _ h => ⟨h.1, h.2.1⟩)
  have HS := Lib.hid hs
  obtain ⟨A, c, rfl, hA⟩ := hv.len
  clear hs hm hv hl hmono hA
  go_enter Try.func30, Try.ntmps30
  go_wp2_with fail
  go_region_held3 (fun w' => w'.cell? ⟨g, 1, none⟩ = some (.slice A l.length c)) (go_keep)
    (first
     | (with_reducible refine (order_any _ _).mono ?_; rintro e w' ⟨rfl, rfl⟩)
     | (with_reducible refine HS.out.mono ?_; rintro e w' ⟨k, q, rfl, hF, hB⟩; have c1 := kept c1 (below_two ((Below.refl _ _).alloc (Nat.le_refl _) _).drew hB)))
  all_goals (have HF := Lib.hid (show PlaceP l lk x w (.returned (nV k)) w' from ⟨k, rfl, hF, below_two ((Below.refl _ _).alloc (Nat.le_refl _) _).drew hB⟩); clear hF hB)
  all_goals go_wp2_with fail
  all_goals go_ret
  all_goals exact HF.out
end Go.Proofs.Ytagfhlnedaagbaa
