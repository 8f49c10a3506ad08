/-
  A window beside those before it, and those of the other cores.
-/
import Derived.Test.YtmfelkdcoihkpaaDoorCont
import Derived.Test.YtmfelkdcoihkpaaDoorPlaced
import Derived.RegionTactic
import Derived.BigRegion
namespace Go.Proofs.YtmfelkdcoihkpaaDoor
open Go.RowKit

theorem enters64 : Enters 64 := enters_of Tryd.func64 (by kernel_rfl) rfl
set_option maxHeartbeats 1000000 in
theorem closure64 (b : Nat) (v x : WinA) (W : World) (hb : WB W b x) :
    Calls Tryd.prog 64 #[wv v, .pointer (some ⟨b, 0, none⟩)] W fun e w' => e = .returned (.bool (gangB v x)) ∧ Below W.heap.size W w' := by
  obtain ⟨v0, v1, v2, v3⟩ := v
  obtain ⟨x0, x1, x2, x3⟩ := x
  have G := fun W => gang_any (v0, v1, v2, v3) (x0, x1, x2, x3) W
  simp only [wv] at G ⊢
  have HG := Lib.hid G
  obtain ⟨c0, c1, c2, c3⟩ := hb.alloc (.cells #[.int .u16 v0, .int .u16 v1, .int .u8 v2, .int .u8 v3] 39)
  dsimp only at c0 c1 c2 c3
  clear G hb
  go_enter Tryd.func64, Tryd.ntmps64
  go_wp2_with fail
  refine (HG.out _).mono ?_
  rintro e w1 ⟨rfl, hB⟩
  have HB := Lib.hid hB
  clear hB
  go_wp2_with fail
  go_ret
  exact ⟨rfl, below_two ((Below.refl _ _).alloc (Nat.le_refl _) _) HB.out⟩

theorem WinsAt.take {w : World} {A : Option Addr} {ws : List WinA} (h : WinsAt w A ws) (i : Nat) : WinsAt w A (ws.take i) := by
  intro j hj
  rw [List.length_take] at hj
  obtain ⟨b, o, e, hc⟩ := h j (by omega)
  refine ⟨b, o, e, fun k u hu => hc k u ?_⟩
  have : (ws.take i).getD j dW = ws.getD j dW := by
    simp only [List.getD_eq_getElem?_getD, List.getElem?_take]
    rw [if_pos (by omega)]
  dsimp only at hu ⊢
  rw [this] at hu
  exact hu

def besideS (cs : List (List WinA)) (i : Nat) : Int :=
  if ((cs.getD 0 []).take i).any (fun v => gangB v (winAt cs 0 i)) then 46 else firstE (twoE (winAt cs 0 i)) (cs.drop 1).flatten

theorem firstE_at {α : Type} {e : α → Int} {a b : List α} {x : α} (h : ∀ y ∈ a, e y = 0) (hx : e x ≠ 0) : firstE e (a ++ x :: b) = e x := by
  unfold firstE
  rw [firstP_at h hx]
theorem firstE_none {α : Type} {e : α → Int} {l : List α} (h : ∀ x ∈ l, e x = 0) : firstE e l = 0 := by
  unfold firstE
  rw [firstP_none h]
theorem mem_at {α : Type} {l : List α} {x : α} (d : α) (h : x ∈ l) : ∃ j, j < l.length ∧ x = l.getD j d := by
  obtain ⟨j, hj, rfl⟩ := List.getElem_of_mem h
  exact ⟨j, hj, by rw [List.getD_eq_getElem?_getD, List.getElem?_eq_getElem hj]; rfl⟩
theorem split_at {α : Type} (d : α) {l : List α} {k : Nat} (h : k < l.length) : l = l.take k ++ l.getD k d :: l.drop (k + 1) := by
  have h1 := List.take_append_drop k l
  rw [List.drop_eq_getElem_cons h] at h1
  rw [List.getD_eq_getElem?_getD, List.getElem?_eq_getElem h]
  exact h1.symm
theorem take_getD {α : Type} (d : α) {l : List α} {k j : Nat} (h : j < k) : (l.take k).getD j d = l.getD j d := by
  simp only [List.getD_eq_getElem?_getD, List.getElem?_take]
  rw [if_pos h]
theorem drop_getD {α : Type} (d : α) (l : List α) (k j : Nat) : (l.drop k).getD j d = l.getD (k + j) d := by
  simp only [List.getD_eq_getElem?_getD, List.getElem?_drop]
theorem first_flat {e : WinA → Int} {cs : List (List WinA)} {a b : Nat} (h1 : 1 ≤ a) (ha : a < cs.length) (hb : b < (cs.getD a []).length)
    (h : ∀ x y, 1 ≤ x → x < cs.length → y < (cs.getD x []).length → (x < a ∨ x = a ∧ y < b) → e (winAt cs x y) = 0) (hx : e (winAt cs a b) ≠ 0) : firstE e (cs.drop 1).flatten = e (winAt cs a b) := by
  have hd := split_at [] (l := cs.drop 1) (k := a - 1) (by rw [List.length_drop]; omega)
  rw [drop_getD, show 1 + (a - 1) = a by omega] at hd
  have hw := split_at dW (l := cs.getD a []) hb
  rw [hd, List.flatten_append, List.flatten_cons]
  conv => lhs; rw [hw]
  rw [List.append_assoc, ← List.append_assoc, List.cons_append]
  refine firstE_at (fun z hz => ?_) hx
  rcases List.mem_append.1 hz with hz | hz
  · obtain ⟨ws, hws, hz⟩ := List.mem_flatten.1 hz
    obtain ⟨j, hj, rfl⟩ := mem_at [] hws
    obtain ⟨y, hy, rfl⟩ := mem_at dW hz
    rw [List.length_take, List.length_drop] at hj
    rw [take_getD [] (by omega), drop_getD] at hy ⊢
    exact h (1 + j) y (by omega) (by omega) hy (.inl (by omega))
  · obtain ⟨y, hy, rfl⟩ := mem_at dW hz
    rw [List.length_take] at hy
    rw [take_getD dW (by omega)]
    exact h a y h1 ha (by omega) (.inr ⟨rfl, by omega⟩)
theorem none_flat {e : WinA → Int} {cs : List (List WinA)} (h : ∀ x y, 1 ≤ x → x < cs.length → y < (cs.getD x []).length → e (winAt cs x y) = 0) : firstE e (cs.drop 1).flatten = 0 := by
  refine firstE_none fun z hz => ?_
  obtain ⟨ws, hws, hz⟩ := List.mem_flatten.1 hz
  obtain ⟨j, hj, rfl⟩ := mem_at [] hws
  obtain ⟨y, hy, rfl⟩ := mem_at dW hz
  rw [List.length_drop] at hj
  rw [drop_getD] at hy ⊢
  exact h (1 + j) y (by omega) (by omega) hy

def BOut (w : World) (cs : List (List WinA)) (x : WinA) (i : Value) (wr : World) : Prop :=
  ∃ j : Nat, j + 1 ≤ cs.length ∧ i = .int .i64 j ∧ (∀ a b, 1 ≤ a → a < j + 1 → b < (cs.getD a []).length → twoE x (winAt cs a b) = 0) ∧ WB wr w.heap.size x ∧ Below w.heap.size w wr
def BIn (w : World) (cs : List (List WinA)) (x : WinA) (a : Nat) (n : Nat) (i : Value) (wr : World) : Prop :=
  ∃ k : Nat, k ≤ n ∧ i = .int .i64 k ∧ (∀ b, b < k → twoE x (winAt cs a b) = 0) ∧ WB wr w.heap.size x ∧ Below w.heap.size w wr

set_option maxHeartbeats 8000000 in
set_option maxRecDepth 100000 in
theorem beside_any (A : Option Addr) (cp : Nat) (cs : List (List WinA)) (i : Nat) (w : World) (hA : CoresAt w A cs) (hW : ∀ ws ∈ cs, ∀ x ∈ ws, WfWin x) (h0 : 0 < cs.length) (h8 : cs.length ≤ 8) (hcp : cs.length ≤ cp) (h256 : ∀ ws ∈ cs, ws.length ≤ 256) (hi : i < (cs.getD 0 []).length) :
    Calls Tryd.prog 47 #[.slice A cs.length cp, .int .i64 i] w fun e w' => e = .returned (.int .i64 (besideS cs i)) ∧ Below w.heap.size w w' := by
  have wi := winAt_wf hW h0 hi
  obtain ⟨b1, o1, b2, o2, cap, rfl, hcap, k1, k2⟩ := win_at hA h0 hi
  obtain ⟨d0, d1, d2, d3⟩ := k2 i hi
  have hl := h256 _ (getD_mem [] h0)
  obtain ⟨n, hn⟩ : ∃ n, n = (cs.getD 0 []).length := ⟨_, rfl⟩
  obtain ⟨⟨x0, x1, x2, x3⟩, hx⟩ : ∃ x, x = winAt cs 0 i := ⟨_, rfl⟩
  have hbs : besideS cs i = if ((cs.getD 0 []).take i).any (fun v => gangB v (x0, x1, x2, x3)) then 46 else firstE (twoE (x0, x1, x2, x3)) (cs.drop 1).flatten := by rw [hx]; rfl
  rw [hbs]
  clear hbs
  rw [← hn] at k1 k2 hi hcap hl
  rw [← hx] at d0 d1 d2 d3 wi
  dsimp only at d0 d1 d2 d3
  have HX := Lib.hid hx
  have HN := Lib.hid hn
  have K2 := Lib.hid k2
  have HWF := Lib.hid hW
  have HA := Lib.hid hA
  have H256 := Lib.hid h256
  clear hx hn k2 hW hA h256
  simp only [Nat.add_zero] at k1
  obtain ⟨m, hm⟩ : ∃ m, m = cs.length := ⟨_, rfl⟩
  rw [← hm] at h0 h8 hcp ⊢
  have HM := Lib.hid hm
  clear hm
  have hz : Below w.heap.size w (w.alloc (.cells #[.int .u16 0, .int .u16 0, .int .u8 0, .int .u8 0] 39)) := (Below.refl _ _).alloc (Nat.le_refl _) _
  have kk := kept k1 hz
  have e0 := kept d0 hz
  have e1 := kept d1 hz
  have e2 := kept d2 hz
  have e3 := kept d3 hz
  clear hz
  have hz2 : Below w.heap.size w (w.alloc (.cells #[.int .u16 x0, .int .u16 x1, .int .u8 x2, .int .u8 x3] 39)).drew := ((Below.refl _ _).alloc (Nat.le_refl _) _).drew
  have hwb : WB (w.alloc (.cells #[.int .u16 x0, .int .u16 x1, .int .u8 x2, .int .u8 x3] 39)).drew w.heap.size (x0, x1, x2, x3) := (WB.new w x0 x1 x2 x3).keep ((Below.refl _ _).drew)
  have HZ2 := Lib.hid hz2
  have HWB := Lib.hid hwb
  obtain ⟨q, hq⟩ : ∃ q, q = ((cs.getD 0 []).take i).any (fun v => gangB v (x0, x1, x2, x3)) := ⟨_, rfl⟩
  have hct : Hid (∀ W, Below w.heap.size w W → WB W w.heap.size (x0, x1, x2, x3) → Calls Tryd.prog 65 #[.slice (some ⟨b2, o2, none⟩) i cap, .func (.func 64) #[] #[.pointer (some ⟨w.heap.size, 0, none⟩)]] W fun e w' => e = .returned (.bool q) ∧ Below W.heap.size W w') := fun W hB hW => by
    obtain ⟨Pf, q1, q2⟩ := HA.out
    have hh := (q2 0 (by rw [← HM.out]; exact h0)).1
    have cc := Arr.at (j := 0) q1 (show 0 < cs.length by rw [← HM.out]; exact h0) rfl
    simp only [slV, Nat.mul_one, Nat.add_zero, ← HN.out] at cc
    rw [k1] at cc
    injection cc with cc
    injection cc with cc _ _
    rw [← cc] at hh
    have ht := WinsAt.take (Arr.keep hh hB) i
    have hlen : ((cs.getD 0 []).take i).length = i := by rw [List.length_take, ← HN.out]; omega
    have := contains_win 64 #[.pointer (some ⟨w.heap.size, 0, none⟩)] (fun v => gangB v (x0, x1, x2, x3)) (some ⟨b2, o2, none⟩) cap _ W ht enters64 (by rw [hlen]; omega) fun v W' _ hB' => closure64 w.heap.size v (x0, x1, x2, x3) W' (hW.keep hB')
    rw [hlen, ← hq] at this
    exact this
  rw [← hq]
  have HCT := hct
  have HTW : Hid (∀ y W, WfWin y → Calls Tryd.prog 66 #[wv (x0, x1, x2, x3), wv y] W fun e w' => e = .returned (.int .i64 (twoE (x0, x1, x2, x3) y)) ∧ Below W.heap.size W w') := fun y W hy => two_any _ y W wi hy
  clear hct hz2 hwb hq
  obtain ⟨m1, rfl⟩ : ∃ m1, m = m1 + 1 := ⟨m - 1, by omega⟩
  cases q
  · by_cases hc1 : cp = 1
    · subst hc1
      obtain rfl : m1 = 0 := by omega
      go_enter Tryd.func47, Tryd.ntmps47
      go_wp2_with fail
      go_region
      clear d0 d1 d2 d3 e0 e1 e2 e3 kk k1
      go_wp2_with fail
      refine (HCT.out _ HZ2.out HWB.out).mono ?_
      rintro e w1 ⟨rfl, hB⟩
      have HB1 := Lib.hid (below_two HZ2.out hB)
      clear hB
      go_wp2_with fail
      refine wp_loop_rounds 1 ?_
      rw [rounds_succ]
      go_wp2_with fail
      go_ret
      exact ⟨ret_i (by rw [← List.drop_one]; exact (none_flat fun x y h1 h2 => by rw [← HM.out] at h2; omega).symm), HB1.out⟩
    · go_enter Tryd.func47, Tryd.ntmps47
      go_wp2_with fail
      go_region
      clear d0 d1 d2 d3 e0 e1 e2 e3 kk k1
      go_wp2_with fail
      refine (HCT.out _ HZ2.out HWB.out).mono ?_
      rintro e w1 ⟨rfl, hB⟩
      have HB1 := Lib.hid (below_two HZ2.out hB)
      have HWB1 := Lib.hid (HWB.out.keep hB)
      clear hB
      go_wp2_with fail
      go_loopw [31] (fun i wr => BOut w cs (x0, x1, x2, x3) i wr) (fun i _ => m1 - (intOf i).toNat)
      case atStart => exact ⟨0, by rw [← HM.out]; omega, rfl, fun a b h1 h2 => by omega, HWB1.out, HB1.out⟩
      case round =>
        obtain ⟨j, hj, rfl, hz, hwb, hB⟩ := hrel
        rw [← HM.out] at hj
        have HZ := Lib.hid hz
        have HW := Lib.hid hwb
        have HB := Lib.hid hB
        clear hz hwb
        by_cases hlt : j < m1
        · obtain ⟨Pf, q1, q2⟩ := HA.out
          have hja : j + 1 < cs.length := by rw [← HM.out]; omega
          have cc := kept (Arr.at (j := 0) q1 hja rfl) hB
          obtain ⟨hh, -⟩ := q2 (j + 1) hja
          obtain ⟨n2, hn2⟩ : ∃ n, n = (cs.getD (j + 1) []).length := ⟨_, rfl⟩
          obtain ⟨⟨A3, c3⟩, hP3⟩ : ∃ p, p = Pf (j + 1) := ⟨_, rfl⟩
          have hl2 := H256.out _ (getD_mem [] hja)
          rw [← hn2] at hl2
          rw [← hP3] at hh cc
          simp only [slV, ← hn2, Nat.mul_one, Nat.add_zero] at cc
          rw [show o1 + (j + 1) = o1 + 1 + j by omega] at cc
          have HH := Lib.hid hh
          have HN2 := Lib.hid hn2
          clear q1 q2 hh hn2 hP3 hB
          go_wp2_with fail
          go_loopw [37] (fun i wr => BIn w cs (x0, x1, x2, x3) (j + 1) n2 i wr) (fun i _ => n2 - (intOf i).toNat)
          case atStart => exact ⟨0, Nat.zero_le _, rfl, fun y hy => by omega, HW.out, HB.out⟩
          case round =>
            obtain ⟨k, hk, rfl, hz2, hwb2, hB2⟩ := hrel
            have HZ2' := Lib.hid hz2
            have HW2 := Lib.hid hwb2
            have HB2 := Lib.hid hB2
            by_cases hlt2 : k < n2
            · have hlw : k < (cs.getD (j + 1) []).length := by rw [← HN2.out]; exact hlt2
              obtain ⟨b3, o3, rfl⟩ := Arr.head HH.out hlw
              obtain ⟨⟨y0, y1, y2, y3⟩, hy⟩ : ∃ y, y = winAt cs (j + 1) k := ⟨_, rfl⟩
              have hy' : (y0, y1, y2, y3) = (cs.getD (j + 1) []).getD k dW := hy
              have g0 := kept (Arr.at (j := 0) HH.out hlw rfl) hB2
              have g1 := kept (Arr.at (j := 1) HH.out hlw rfl) hB2
              have g2 := kept (Arr.at (j := 2) HH.out hlw rfl) hB2
              have g3 := kept (Arr.at (j := 3) HH.out hlw rfl) hB2
              simp only [← hy', Nat.add_zero] at g0 g1 g2 g3
              have wy := winAt_wf HWF.out hja hlw
              rw [← hy] at wy
              rename_i wr
              obtain ⟨r0, r1, r2, r3⟩ := hwb2.alloc (.cells #[.int .u16 y0, .int .u16 y1, .int .u8 y2, .int .u8 y3] 39)
              dsimp only at r0 r1 r2 r3
              have HT2 := Lib.hid (fun W => HTW.out (y0, y1, y2, y3) W wy)
              simp only [wv] at HT2
              obtain ⟨z, hzz⟩ : ∃ z, z = twoE (x0, x1, x2, x3) (y0, y1, y2, y3) := ⟨_, rfl⟩
              rw [← hzz] at HT2
              have HZZ := Lib.hid hzz
              have HY := Lib.hid hy
              clear hz2 hwb2 hB2 cc hy hy' wy hzz
              by_cases hz0 : z = 0
              · subst hz0
                go_wp2_with fail
                refine (HT2.out _).mono ?_
                rintro e w2 ⟨rfl, hB⟩
                have hwA := (HW2.out.alloc (.cells #[.int .u16 y0, .int .u16 y1, .int .u8 y2, .int .u8 y3] 39)).keep hB
                have HB3 := Lib.hid (below_box HB2.out hB)
                have HWA := Lib.hid hwA
                clear hB hwA
                go_wp2_with fail
                go_roundw
                case rel => exact ⟨k + 1, by omega, by go_num, fun b hb => (by
                    rcases Nat.lt_or_ge b k with h | h
                    · exact HZ2'.out b h
                    · obtain rfl : b = k := by omega
                      rw [← HY.out]; exact HZZ.out.symm), HWA.out, HB3.out⟩
                case measure => simp [intOf]; omega
              · have hzb : (z != 0) = true := by simpa using hz0
                have HZ0 := Lib.hid hz0
                clear hz0
                go_wp2_with fail
                refine (HT2.out _).mono ?_
                rintro e w2 ⟨rfl, hB⟩
                have HB3 := Lib.hid (below_box HB2.out hB)
                clear hB
                go_wp2_with fail
                go_ret
                refine ⟨ret_i ?_, HB3.out⟩
                rw [← List.drop_one, first_flat (a := j + 1) (b := k) (by omega) hja hlw (fun a b h1 h2 h3 h4 => (by
                  rcases h4 with h4 | ⟨rfl, h4⟩
                  · exact HZ.out a b h1 h4 h3
                  · exact HZ2'.out b h4)) (by rw [← HY.out, ← HZZ.out]; exact HZ0.out), ← HY.out]
                exact HZZ.out
            · have hk' : k = n2 := by omega
              subst hk'
              clear hz2 hwb2 hB2 cc
              go_wp2_with fail
              go_roundw
              case rel => exact ⟨j + 1, by rw [← HM.out]; omega, by go_num, fun a b h1 h2 h3 => (by
                rcases Nat.lt_or_ge a (j + 1) with h | h
                · exact HZ.out a b h1 h h3
                · obtain rfl : a = j + 1 := by omega
                  exact HZ2'.out b (by rw [HN2.out]; exact h3)), HW2.out, HB2.out⟩
              case measure => simp [intOf]; omega
        · obtain rfl : j = m1 := by omega
          clear hB
          go_wp2_with fail
          go_ret
          exact ⟨ret_i (by rw [← List.drop_one]; exact (none_flat fun a b h1 h2 h3 => HZ.out a b h1 (by rw [← HM.out] at h2; exact h2) h3).symm), HB.out⟩
  · go_enter Tryd.func47, Tryd.ntmps47
    go_wp2_with fail
    go_region
    clear d0 d1 d2 d3 e0 e1 e2 e3 kk k1
    go_wp2_with fail
    refine (HCT.out _ HZ2.out HWB.out).mono ?_
    rintro e w1 ⟨rfl, hB⟩
    have HB1 := Lib.hid hB
    clear hB
    go_wp2_with fail
    go_ret
    exact ⟨rfl, below_two HZ2.out HB1.out⟩
end Go.Proofs.YtmfelkdcoihkpaaDoor
