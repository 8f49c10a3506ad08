/-
  slices.EqualFunc over cores and partitions; plan.Same.
-/
import Derived.Test.YtkgkjkghdllkhaaDoorSameB
namespace Go.Proofs.YtkgkjkghdllkhaaDoor
open Go.RowKit

def EqRel_core (w : World) (cs ds : List (List WinA)) (i : Value) (wr : World) : Prop :=
  ∃ k : Nat, k ≤ cs.length ∧ i = .int .i64 k ∧ (∀ j, j < k → cs.getD j [] = ds.getD j []) ∧ Below w.heap.size w wr
set_option maxHeartbeats 4000000 in
set_option maxRecDepth 100000 in
theorem equal_core (A A2 : Option Addr) (c c2 : Nat) (cs ds : List (List WinA)) (w : World) (hA : CoresAt w A cs) (hA2 : CoresAt w A2 ds) (hn : cs.length ≤ 1000000) (hin : ∀ ws ∈ cs, ws.length ≤ 1000000) :
    Calls Tryd.prog 44 #[.slice A cs.length c, .slice A2 ds.length c2, .func (.func 45) #[] #[]] w fun e w' => e = .returned (.bool (sameB cs ds)) ∧ Below w.heap.size w w' := by
  have HIN := Lib.hid hin
  clear hin
  by_cases hl : cs.length = ds.length
  · have HA := Lib.hid hA
    have HA2 := Lib.hid hA2
    have HL := Lib.hid hl
    rw [← hl]
    clear hA hA2 hl
    obtain ⟨n, hnn⟩ : ∃ n, n = cs.length := ⟨_, rfl⟩
    rw [← hnn] at hn ⊢
    have HN := Lib.hid hnn
    clear hnn
    go_enter Tryd.func44, Tryd.ntmps44
    go_wp2_with fail
    go_loopw [17] (fun i wr => EqRel_core w cs ds i wr) (fun i _ => n - (intOf i).toNat)
    case atStart => exact ⟨0, Nat.zero_le _, rfl, fun j hj => by omega, Below.refl _ _⟩
    case round =>
      obtain ⟨k, hk, rfl, hj, hB⟩ := hrel
      rw [← HN.out] at hk
      have HJ := Lib.hid hj
      have HB := Lib.hid hB
      by_cases hlt : k < n
      · have hlw : k < cs.length := by rw [← HN.out]; exact hlt
        have hlv : k < ds.length := by rw [← HL.out]; exact hlw
        have p0 : (0 : Int) ≤ (k : Int) := Int.natCast_nonneg _
        have p1 : (k : Int) < (n : Int) := by omega
        obtain ⟨P, q1, q2⟩ := HA.out.keep HB.out
        obtain ⟨P2, u1, u2⟩ := HA2.out.keep HB.out
        obtain ⟨b, o, rfl⟩ := Arr.head q1 hlw
        obtain ⟨b2, o2, rfl⟩ := Arr.head u1 hlv
        obtain ⟨ws, hx⟩ : ∃ x, x = cs.getD k [] := ⟨_, rfl⟩
        obtain ⟨vs, hy⟩ : ∃ x, x = ds.getD k [] := ⟨_, rfl⟩
        have c0 := Arr.at (j := 0) q1 hlw rfl
        have e0 := Arr.at (j := 0) u1 hlv rfl
        have hw := q2 k hlw
        have hv := u2 k hlv
        simp only [slV, ← hx, ← hy, Nat.add_zero, Nat.mul_one] at c0 e0 hw hv
        have HEQ := equal_win (P k).1 (P2 k).1 (P k).2 (P2 k).2 ws vs wr hw hv (HIN.out ws (hx ▸ getD_mem [] hlw))
        have HX := Lib.hid hx
        have HY := Lib.hid hy
        obtain ⟨lw, hlw'⟩ : ∃ l, l = ws.length := ⟨_, rfl⟩
        obtain ⟨lv, hlv'⟩ : ∃ l, l = vs.length := ⟨_, rfl⟩
        rw [← hlw'] at c0 HEQ
        rw [← hlv'] at e0 HEQ
        clear hj hB hx hy hlw hlv q1 q2 u1 u2 hw hv hlw' hlv'
        by_cases he : ws = vs
        · rw [same_yes he] at HEQ
          have HE := Lib.hid he
          have HEQ := Lib.hid HEQ
          clear he
          go_wp2_with fail
          refine HEQ.out.mono ?_
          rintro e w2 ⟨rfl, hB2⟩
          have HB2 := Lib.hid (HB.out.trans (hB2.mono HB.out.size))
          clear hB2
          go_wp2_with fail
          go_roundw
          case rel => exact ⟨k + 1, by rw [← HN.out]; omega, by go_num, fun j hj => (by
            rcases Nat.lt_or_ge j k with h | h
            · exact HJ.out j h
            · obtain rfl : j = k := by omega
              rw [← HX.out, ← HY.out]; exact HE.out), HB2.out⟩
          case measure => simp [intOf]; omega
        · rw [same_no he] at HEQ
          have HE := Lib.hid he
          have HEQ := Lib.hid HEQ
          clear he
          go_wp2_with fail
          refine HEQ.out.mono ?_
          rintro e w2 ⟨rfl, hB2⟩
          have HB2 := Lib.hid (HB.out.trans (hB2.mono HB.out.size))
          clear hB2
          go_wp2_with fail
          go_ret
          refine ⟨ret_same (same_no fun e => HE.out ?_), HB2.out⟩
          rw [HX.out, HY.out, e]
      · have hk' : k = n := by omega
        subst hk'
        clear hj hB
        go_wp2_with fail
        go_ret
        exact ⟨ret_same (same_yes (list_ext [] HL.out (by rw [← HN.out]; exact HJ.out))), HB.out⟩
  · have HL := Lib.hid hl
    have hb : ((cs.length : Int) != (ds.length : Int)) = true := by simp; omega
    clear hA hA2
    obtain ⟨n, hnn⟩ : ∃ n, n = cs.length := ⟨_, rfl⟩
    obtain ⟨m, hm⟩ : ∃ m, m = ds.length := ⟨_, rfl⟩
    rw [← hnn, ← hm] at hb
    rw [← hnn, ← hm]
    clear hnn hm hl hn
    go_enter Tryd.func44, Tryd.ntmps44
    go_wp2_with fail
    go_ret
    exact ⟨ret_same (same_no fun e => HL.out (by rw [e])), Below.refl _ _⟩

def EqRel_part (w : World) (cs ds : List PartA) (i : Value) (wr : World) : Prop :=
  ∃ k : Nat, k ≤ cs.length ∧ i = .int .i64 k ∧ (∀ j, j < k → cs.getD j dQ = ds.getD j dQ) ∧ Below w.heap.size w wr
set_option maxHeartbeats 4000000 in
set_option maxRecDepth 100000 in
theorem equal_part (A A2 : Option Addr) (c c2 : Nat) (cs ds : List PartA) (w : World) (hA : PartsAt w A cs) (hA2 : PartsAt w A2 ds) (hn : cs.length ≤ 1000000) (hin : ∀ q ∈ cs, q.1.length ≤ 1000000 ∧ q.2.2.1.length ≤ 1000000) :
    Calls Tryd.prog 46 #[.slice A cs.length c, .slice A2 ds.length c2, .func (.func 47) #[] #[]] w fun e w' => e = .returned (.bool (sameB cs ds)) ∧ Below w.heap.size w w' := by
  have HIN := Lib.hid hin
  clear hin
  by_cases hl : cs.length = ds.length
  · have HA := Lib.hid hA
    have HA2 := Lib.hid hA2
    have HL := Lib.hid hl
    rw [← hl]
    clear hA hA2 hl
    obtain ⟨n, hnn⟩ : ∃ n, n = cs.length := ⟨_, rfl⟩
    rw [← hnn] at hn ⊢
    have HN := Lib.hid hnn
    clear hnn
    go_enter Tryd.func46, Tryd.ntmps46
    go_wp2_with fail
    go_loopw [17] (fun i wr => EqRel_part w cs ds i wr) (fun i _ => n - (intOf i).toNat)
    case atStart => exact ⟨0, Nat.zero_le _, rfl, fun j hj => by omega, Below.refl _ _⟩
    case round =>
      obtain ⟨k, hk, rfl, hj, hB⟩ := hrel
      rw [← HN.out] at hk
      have HJ := Lib.hid hj
      have HB := Lib.hid hB
      by_cases hlt : k < n
      · have hlw : k < cs.length := by rw [← HN.out]; exact hlt
        have hlv : k < ds.length := by rw [← HL.out]; exact hlw
        have p0 : (0 : Int) ≤ (k : Int) := Int.natCast_nonneg _
        have p1 : (k : Int) < (n : Int) := by omega
        obtain ⟨S, P, q1, q2⟩ := HA.out.keep HB.out
        obtain ⟨S2, P2, u1, u2⟩ := HA2.out.keep HB.out
        obtain ⟨b, o, rfl⟩ := Arr.head q1 hlw
        obtain ⟨b2, o2, rfl⟩ := Arr.head u1 hlv
        obtain ⟨q, hx⟩ : ∃ x, x = cs.getD k dQ := ⟨_, rfl⟩
        obtain ⟨q', hy⟩ : ∃ x, x = ds.getD k dQ := ⟨_, rfl⟩
        obtain ⟨s1, hs1⟩ : ∃ x, x = S k := ⟨_, rfl⟩
        obtain ⟨p1', hp1⟩ : ∃ x, x = P k := ⟨_, rfl⟩
        obtain ⟨s2, hs2⟩ : ∃ x, x = S2 k := ⟨_, rfl⟩
        obtain ⟨p2', hp2⟩ : ∃ x, x = P2 k := ⟨_, rfl⟩
        obtain ⟨c0, c1', c2', c3, c4, c5⟩ := PartsAt.at q1 hlw hx hs1 hp1
        obtain ⟨e0, e1, e2, e3, e4, e5⟩ := PartsAt.at u1 hlv hy hs2 hp2
        have hw := q2 k hlw
        have hv := u2 k hlv
        rw [← hx, ← hs1, ← hp1] at hw
        rw [← hy, ← hs2, ← hp2] at hv
        have hmem := HIN.out q (hx ▸ getD_mem dQ hlw)
        have HEQ := fun W (hb : Below wr.heap.size wr W) => samePart_any s1 p1' s2 p2' q q' W (Arr.keep hw.1 hb) (Arr.keep hw.2.1 hb) (Arr.keep hv.1 hb) (Arr.keep hv.2.1 hb) hmem.1 hmem.2
        have hb2 : b2 < wr.heap.size := cell_lt' e0
        have EF := fun (j : Nat) (u : Value) (h : wr.cell? ⟨b2, j, none⟩ = some u) => (World.cell?_alloc_lt wr (.cells #[.slice s1.1 q.1.length s1.2, .int .u8 q.2.1, .slice p1'.1 q.2.2.1.length p1'.2, .int .u8 q.2.2.2.1, .int .u8 q.2.2.2.2.1, .int .u8 q.2.2.2.2.2] 56) ⟨b2, j, none⟩ hb2).trans h
        have f0 := EF _ _ e0
        have f1 := EF _ _ e1
        have f2 := EF _ _ e2
        have f3 := EF _ _ e3
        have f4 := EF _ _ e4
        have f5 := EF _ _ e5
        clear EF e0 e1 e2 e3 e4 e5
        have HX := Lib.hid hx
        have HY := Lib.hid hy
        have hwz := HB.out.size
        clear hj hB hx hy hlw hlv q1 q2 u1 u2 hw hv hmem hs1 hs2 hp1 hp2
        have HEQ := HEQ _ (((Below.refl _ wr).alloc (Nat.le_refl _) (.cells #[.slice s1.1 q.1.length s1.2, .int .u8 q.2.1, .slice p1'.1 q.2.2.1.length p1'.2, .int .u8 q.2.2.2.1, .int .u8 q.2.2.2.2.1, .int .u8 q.2.2.2.2.2] 56)).alloc (by simp) (.cells #[.slice s2.1 q'.1.length s2.2, .int .u8 q'.2.1, .slice p2'.1 q'.2.2.1.length p2'.2, .int .u8 q'.2.2.2.1, .int .u8 q'.2.2.2.2.1, .int .u8 q'.2.2.2.2.2] 56))
        by_cases he : q = q'
        · rw [same_yes he] at HEQ
          have HE := Lib.hid he
          have HEQ := Lib.hid HEQ
          clear he
          go_wp2_with fail
          refine HEQ.out.mono ?_
          rintro e w2 ⟨rfl, hB2⟩
          have HB2 := Lib.hid (((HB.out.alloc hwz _).alloc (by simp; omega) _).trans (hB2.mono (by simp; omega)))
          clear hB2
          go_wp2_with fail
          go_roundw
          case rel => exact ⟨k + 1, by rw [← HN.out]; omega, by go_num, fun j hj => (by
            rcases Nat.lt_or_ge j k with h | h
            · exact HJ.out j h
            · obtain rfl : j = k := by omega
              rw [← HX.out, ← HY.out]; exact HE.out), HB2.out⟩
          case measure => simp [intOf]; omega
        · rw [same_no he] at HEQ
          have HE := Lib.hid he
          have HEQ := Lib.hid HEQ
          clear he
          go_wp2_with fail
          refine HEQ.out.mono ?_
          rintro e w2 ⟨rfl, hB2⟩
          have HB2 := Lib.hid (((HB.out.alloc hwz _).alloc (by simp; omega) _).trans (hB2.mono (by simp; omega)))
          clear hB2
          go_wp2_with fail
          go_ret
          refine ⟨ret_same (same_no fun e => HE.out ?_), HB2.out⟩
          rw [HX.out, HY.out, e]
      · have hk' : k = n := by omega
        subst hk'
        clear hj hB
        go_wp2_with fail
        go_ret
        exact ⟨ret_same (same_yes (list_ext dQ HL.out (by rw [← HN.out]; exact HJ.out))), HB.out⟩
  · have HL := Lib.hid hl
    have hb : ((cs.length : Int) != (ds.length : Int)) = true := by simp; omega
    clear hA hA2
    obtain ⟨n, hnn⟩ : ∃ n, n = cs.length := ⟨_, rfl⟩
    obtain ⟨m, hm⟩ : ∃ m, m = ds.length := ⟨_, rfl⟩
    rw [← hnn, ← hm] at hb
    rw [← hnn, ← hm]
    clear hnn hm hl hn
    go_enter Tryd.func46, Tryd.ntmps46
    go_wp2_with fail
    go_ret
    exact ⟨ret_same (same_no fun e => HL.out (by rw [e])), Below.refl _ _⟩
end Go.Proofs.YtkgkjkghdllkhaaDoor
