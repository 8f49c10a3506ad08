/-
  Order and List of the document's.
-/
import Derived.Test.YtagfhlnedaagbaaDocF
import Derived.Test.YtagfhlnedaagbaaAwkW
namespace Go.Proofs.Ytagfhlnedaagbaa
open Go.RowKit

/-- Those of one priority, as they came. -/
def bandD (l : List DW) (p : Int) : List DW := l.filter fun y => decide (y.2.1 = p)
/-- Those of the k greatest priorities. -/
def accD (l : List DW) : Nat → List DW
  | 0 => []
  | k + 1 => accD l k ++ bandD l (63 - (k : Int))
def ordD (l : List DW) : List DW := accD l 64
theorem accD_len (l : List DW) : ∀ k, (accD l k).length ≤ k * l.length
  | 0 => by simp [accD]
  | k + 1 => by
    have := accD_len l k
    have h2 : (bandD l (63 - (k : Int))).length ≤ l.length := List.length_filter_le _ _
    simp only [accD, List.length_append, Nat.succ_mul]
    omega
theorem take_succ' {l : List DW} {i : Nat} (hi : i < l.length) : l.take (i + 1) = l.take i ++ [l.getD i d0] := by
  rw [List.take_succ_eq_append_getElem hi, List.getD_eq_getElem?_getD, List.getElem?_eq_getElem hi]
  rfl
set_option maxRecDepth 100000 in
set_option maxHeartbeats 4000000 in
theorem order_any' (A : Option Addr) (c : Nat) (l : List DW) (w : World) (hA : DAt w A l) (hn : l.length ≤ 1000) :
    Calls Try.prog 25 #[.slice A l.length c] w fun e w' => FreshD (ordD l) w e w' := by
  obtain ⟨n, hnn⟩ : ∃ n, n = l.length := ⟨_, rfl⟩
  rw [← hnn]
  have HA := Lib.hid hA
  have HN := Lib.hid hnn
  have HL := Lib.hid (accD_len l)
  rw [← hnn] at hn
  clear hA hnn
  go_enter Try.func25, Try.ntmps25
  go_wp2_with fail
  go_loopw [3, 4, 5] (fun vo pv _ wr => ∃ k : Nat, pv = .int .i64 (63 - (k : Int)) ∧ k ≤ 64 ∧ Hid (DR w.heap.size wr vo (accD l k)) ∧ Hid (Below w.heap.size w wr)) (fun _ pv _ _ => (intOf pv + 1).toNat)
  case atStart => exact ⟨0, rfl, by omega, DR.lit w (Nat.le_refl _), (Below.refl _ _).alloc (Nat.le_refl _) _⟩
  case round =>
    obtain ⟨k, rfl, hk, HR, HB⟩ := hrel
    obtain ⟨vo, hvo⟩ : ∃ vo, vo = u3 := ⟨_, rfl⟩
    subst hvo
    by_cases hlt : k < 64
    · obtain ⟨p, hp⟩ : ∃ p : Int, p = 63 - (k : Int) := ⟨_, rfl⟩
      have i0 : 0 ≤ p := by omega
      have hpe : p ≤ 63 := by omega
      rw [← hp]
      have HP := Lib.hid hp
      clear hp
      go_wp2_with fail
      go_loopw [3, 5] (fun vo iv wr => ∃ i : Nat, iv = .int .i64 i ∧ i ≤ n ∧ Hid (DR w.heap.size wr vo (accD l k ++ bandD (l.take i) p)) ∧ Hid (Below w.heap.size w wr)) (fun _ iv _ => n - (intOf iv).toNat)
      case atStart => exact ⟨0, rfl, Nat.zero_le _, by rw [List.take_zero]; show DR _ _ _ (accD l k ++ []); rw [List.append_nil]; exact HR, HB⟩
      case round =>
        obtain ⟨i, rfl, hin, HR, HB⟩ := hrel
        obtain ⟨vo, hvo⟩ : ∃ vo, vo = u3 := ⟨_, rfl⟩
        subst hvo
        have i1 : (0 : Int) ≤ (i : Int) := Int.natCast_nonneg _
        by_cases hil : i < n
        · have hil' : i < l.length := by rw [← HN.out]; exact hil
          obtain ⟨b, o, rfl, c0, c1, c2⟩ := (HA.out.keep HB.out).get hil'
          obtain ⟨⟨y0, y1, y2⟩, hy⟩ : ∃ y, y = l.getD i d0 := ⟨_, rfl⟩
          rw [← hy] at c0 c1 c2
          dsimp only at c0 c1 c2
          have i2 : (i : Int) < (n : Int) := by omega
          have hnext : bandD (l.take (i + 1)) p = bandD (l.take i) p ++ (if y1 = p then [(y0, y1, y2)] else []) := by
            rw [take_succ' hil', ← hy]
            unfold bandD
            rw [List.filter_append]
            congr 1
            by_cases h : y1 = p
            · rw [if_pos h]; simp [h]
            · rw [if_neg h]; simp [h]
          have hlen : (accD l k ++ bandD (l.take i) p).length ≤ 100000 := by
            have h1 := HL.out k
            have h2 : (bandD (l.take i) p).length ≤ (l.take i).length := List.length_filter_le _ _
            rw [List.length_take] at h2
            have h3 := HN.out
            rw [List.length_append]
            have h4 : k * l.length ≤ 64 * 1000 := Nat.mul_le_mul (by omega) (by omega)
            omega
          have HNX := Lib.hid hnext
          have HLN := Lib.hid hlen
          clear hnext hlen hy hil'
          by_cases hyp : y1 = p
          · subst hyp
            go_wp2_with (at_builtin; refine wpList_appD (y := (y0, y1, y2)) rfl _ _ rfl HR.out HLN.out rfl rfl HB.out.size ?_; intro g' cap' w4 hD4 hC4 hO4)
            have HD : Hid (DR w.heap.size w4 (.slice (some ⟨g', 0, none⟩) ((accD l k ++ bandD (l.take i) y1).length + 1) cap') (accD l k ++ bandD (l.take (i + 1)) y1)) := by
              rw [HNX.out, if_pos rfl, ← List.append_assoc]; exact hD4
            have HBB : Hid (Below w.heap.size w w4) := HB.out.trans (Chg.below hC4 (fun x hx => DR.ge HR.out hx) HB.out.size)
            clear hD4 hC4 hO4 HR HB HNX
            go_roundw
            case rel => exact ⟨i + 1, by go_num, by omega, by first | exact HD | (have := HD.out; rw [List.length_append] at this; exact this), HBB⟩
            case measure => first | (simp [intOf]; done) | (simp [intOf]; omega)
          · have HD : Hid (DR w.heap.size wr vo (accD l k ++ bandD (l.take (i + 1)) p)) := by
              rw [HNX.out, if_neg hyp, List.append_nil]; exact HR.out
            clear HR HNX
            go_wp2_with fail
            go_roundw
            case rel => exact ⟨i + 1, by go_num, by omega, HD, HB⟩
            case measure => first | (simp [intOf]; done) | (simp [intOf]; omega)
        · obtain rfl : i = n := by omega
          have HD : Hid (DR w.heap.size wr vo (accD l (k + 1))) := by
            have : accD l (k + 1) = accD l k ++ bandD (l.take i) p := by
              rw [HN.out, List.take_length, HP.out]; rfl
            rw [this]; exact HR
          have e1 : p - 1 = 63 - ((k + 1 : Nat) : Int) := by rw [HP.out]; omega
          have j1 : IntKind.i64.wrap (p - 1) = p - 1 := by rw [IntKind.wrap_i64]; omega
          clear HR
          go_wp2_with fail
          go_roundw
          case rel => exact ⟨k + 1, by first | rw [e1] | rfl, by omega, HD, HB⟩
          case measure => simp [intOf]; omega
    · have e : (63 : Int) - (k : Int) = -1 := by omega
      have HF : Hid (FreshD (ordD l) w (.returned vo) wr) := ⟨vo, rfl, by have : k = 64 := by omega
                                                                          subst this; exact HR, HB⟩
      rw [e]
      clear HR HB
      go_wp2_with fail
      go_ret
      exact HF.out
/-- Their numbers. -/
def idsD (l : List DW) : List Int := l.map fun y => y.1
set_option maxRecDepth 100000 in
set_option maxHeartbeats 4000000 in
theorem listd_any (v : Value) (t : Int) (l : List DW) (w : World) (hA : DR 0 w v l) (hn : l.length ≤ 1000) :
    Calls Try.prog 11 #[.agg #[v, nV t]] w fun e w' => Fresh (idsD (ordD l)) w e w' := by
  obtain ⟨A, c, rfl, _⟩ := hA.len
  have HO := Lib.hid (fun W (hB : Below w.heap.size w W) => order_any' A c l W (hA.at.keep hB) hn)
  have HL := Lib.hid (show (ordD l).length ≤ 100000 by have := accD_len l 64; unfold ordD; omega)
  clear hA
  go_enter Try.func11, Try.ntmps11
  go_wp2_with fail
  have hB1 : Below w.heap.size w (w.alloc (.cells #[.slice A l.length c, nV t] 27)) := (Below.refl _ _).alloc (Nat.le_refl _) _
  with_reducible refine (HO.out _ hB1).mono ?_
  rintro e w1 ⟨vo, rfl, hD, hB⟩
  obtain ⟨oA, oc, rfl, _⟩ := hD.len
  have HD := Lib.hid hD.at
  have hB2 : Below w.heap.size w w1 := hB1.trans (hB.mono (by simp))
  have HB := Lib.hid hB2
  obtain ⟨n, hn'⟩ : ∃ n, n = (ordD l).length := ⟨_, rfl⟩
  rw [← hn']
  rw [← hn'] at HL
  have HN := Lib.hid hn'
  have hN0 : Nums (w1.alloc (.cells #[] 3)) (.slice (some ⟨w1.heap.size, 0, none⟩) 0 0) [] := World.ownsRow_lit (base := 0) (size := 1) (e := 3) w1 #[] 0 (Nat.zero_le _) (by decide) rfl
  have HN0 := Lib.hid hN0
  clear hD hB hB1 hB2 HO hN0 hn'
  go_wp2_with fail
  go_loopw [4, 5] (fun vo iv wr => ∃ i : Nat, iv = .int .i64 i ∧ i ≤ n ∧ Hid (Nums wr vo (idsD ((ordD l).take i))) ∧ Hid (Below w1.heap.size w1 wr) ∧ Hid (∀ x, vo.ownBlock = some x → w1.heap.size ≤ x)) (fun _ iv _ => n - (intOf iv).toNat)
  case atStart => exact ⟨0, rfl, Nat.zero_le _, HN0, (Below.refl _ _).alloc (Nat.le_refl _) _, fun x e => by
    have e : some w1.heap.size = some x := e
    injection e with e
    omega⟩
  case round =>
    obtain ⟨i, rfl, hin, HR, HBB, HG⟩ := hrel
    obtain ⟨vo, hvo⟩ : ∃ vo, vo = u4 := ⟨_, rfl⟩
    subst hvo
    have i1 : (0 : Int) ≤ (i : Int) := Int.natCast_nonneg _
    by_cases hil : i < n
    · have hil' : i < (ordD l).length := by rw [← HN.out]; exact hil
      obtain ⟨b, o, rfl, c0, _, _⟩ := (HD.out.keep HBB.out).get hil'
      obtain ⟨y0, hy⟩ : ∃ y0, y0 = ((ordD l).getD i d0).1 := ⟨_, rfl⟩
      rw [← hy] at c0
      have i2 : (i : Int) < (n : Int) := by omega
      have hnext : idsD ((ordD l).take (i + 1)) = idsD ((ordD l).take i) ++ [y0] := by
        rw [take_succ' hil', hy]
        unfold idsD
        rw [List.map_append]
        rfl
      have hlen : (idsD ((ordD l).take i)).length = i := by unfold idsD; rw [List.length_map, List.length_take]; omega
      obtain ⟨L0, hL0⟩ : ∃ L0, L0 = idsD ((ordD l).take i) := ⟨_, rfl⟩
      rw [← hL0] at HR hnext hlen
      have HNX := Lib.hid hnext
      have hn1 : n ≤ 100000 := HL.out
      have hlen2 : L0.length ≤ 100000 := by omega
      clear hnext hy hil' hL0 hlen
      go_wp2_with (at_builtin; refine wpList_app (z := y0) rfl _ _ rfl HR.out hlen2 rfl rfl ?_; intro g' cap' w4 hN4 hC4 hO4)
      have HF : Hid (Nums w4 (.slice (some ⟨g', 0, none⟩) (L0.length + 1) cap') (idsD ((ordD l).take (i + 1)))) := by rw [HNX.out]; exact hN4
      have HB4 : Hid (Below w1.heap.size w1 w4) := HBB.out.trans (Chg.below hC4 (fun x hx => HG.out x hx) HBB.out.size)
      have HG4 : Hid (∀ x, (Value.slice (some ⟨g', 0, none⟩) (L0.length + 1) cap').ownBlock = some x → w1.heap.size ≤ x) := fun x e => by
        have e : some g' = some x := e
        injection e with e
        rcases hO4 with h | h
        · have := HG.out _ h; omega
        · have := HBB.out.size; omega
      clear hN4 hC4 hO4 HR HG HBB HNX
      go_roundw
      case rel => exact ⟨i + 1, by go_num, by omega, HF, HB4, HG4⟩
      case measure => first | (simp [intOf]; done) | (simp [intOf]; omega)
    · obtain rfl : i = n := by omega
      have HF : Hid (Fresh (idsD (ordD l)) w (.returned vo) wr) := ⟨vo, rfl, by have := HR.out; rw [HN.out, List.take_length] at this; exact this, HB.out.trans (HBB.out.mono HB.out.size), fun x e => Nat.le_trans HB.out.size (HG.out x e)⟩
      clear HR HG HBB
      go_wp2_with fail
      go_ret
      exact HF.out
end Go.Proofs.Ytagfhlnedaagbaa
