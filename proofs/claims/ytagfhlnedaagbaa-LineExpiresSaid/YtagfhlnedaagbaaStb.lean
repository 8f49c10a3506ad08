/-
  slices.SortStableFunc over a row of numbers: sorted, of one key by place.
-/
import Derived.Test.YtagfhlnedaagbaaSymC
namespace Go.Proofs.Ytagfhlnedaagbaa
open Go.RowKit

theorem sym_any (K : FuncId) (cap : Array Value) (key : Int → Int) (pos : Int → Nat) (g n c : Nat) (w0 : World) (l0 : List Int) (hK : Enters K) (hC : SortC K cap (fun x y => cmpI (key x) (key y)) g w0 l0) (hn : n ≤ 100000) : ∀ (N : Nat) (a m b : Nat) (w : World) (P X Y S : List Int), X.length + Y.length < N → 0 < X.length → 0 < Y.length → SR w0 w g n c (P ++ (X ++ (Y ++ S))) → (∀ x ∈ X, x ∈ l0) → (∀ y ∈ Y, y ∈ l0) → X.Pairwise (Ord key pos) → Y.Pairwise (Ord key pos) → (∀ x ∈ X, ∀ y ∈ Y, pos x < pos y) → a = P.length → m = P.length + X.length → b = P.length + X.length + Y.length →
      Calls Try.prog 53 #[slV g n c, nV a, nV m, nV b, .func (.func K) #[] cap] w fun e w' => MrgP key pos w0 g n c P X Y S e w'
  | 0, _, _, _, _, _, _, _, _, h, _, _, _, _, _, _, _, _, _, _, _ => absurd h (Nat.not_lt_zero _)
  | N + 1, a, m, b, w, P, X, Y, S, h, hX, hY, hS, hx, hy, oX, oY, hxy, ha, hm, hb => by
    by_cases hlt : X.length + Y.length < N
    · exact sym_any K cap key pos g n c w0 l0 hK hC hn N a m b w P X Y S hlt hX hY hS hx hy oX oY hxy ha hm hb
    · by_cases h1 : X.length = 1
      · obtain ⟨x, rfl⟩ : ∃ x, X = [x] := List.length_eq_one_iff.1 h1
        exact sym_one K cap key pos g n c a m b w0 w l0 P Y S x hK hC hn hS (hx x (by simp)) hy oY (hxy x (by simp)) ha (by simpa using hm) (by simpa using hb)
      · by_cases h2 : Y.length = 1
        · obtain ⟨y, rfl⟩ : ∃ y, Y = [y] := List.length_eq_one_iff.1 h2
          exact sym_last K cap key pos g n c a m b w0 w l0 P X S y hK hC hn hS (hy y (by simp)) hx oX (fun x h => hxy x h y (by simp)) (by omega) ha hm (by simpa using hb)
        · exact sym_rec K cap key pos g n c w0 l0 hK hC hn N (sym_any K cap key pos g n c w0 l0 hK hC hn N) a m b w P X Y S (by omega) (by omega) (by omega) hS hx hy oX oY hxy ha hm hb

/-- The blocks' sizes: all are whole but the last one. -/
def Sz (bs : Nat) : List (List Int) → Prop
  | [] => True
  | [Z] => 0 < Z.length ∧ Z.length ≤ bs
  | Z :: r => Z.length = bs ∧ Sz bs r
theorem Sz.cons {bs : Nat} {Z Z' : List Int} {r : List (List Int)} : Sz bs (Z :: Z' :: r) ↔ Z.length = bs ∧ Sz bs (Z' :: r) := Iff.rfl
theorem Sz.pos {bs : Nat} (hb : 0 < bs) : ∀ {Zs : List (List Int)}, Sz bs Zs → ∀ Z ∈ Zs, 0 < Z.length ∧ Z.length ≤ bs
  | [], _, _, h => by cases h
  | [Z], hs, A, h => by obtain rfl : A = Z := by simpa using h
                        exact hs
  | Z :: Z' :: r, hs, A, h => by
    obtain ⟨h1, h2⟩ := Sz.cons.1 hs
    rcases List.mem_cons.1 h with rfl | h
    · omega
    · exact Sz.pos hb h2 A h
theorem Sz.tail {bs : Nat} {Z : List Int} : ∀ {r : List (List Int)}, Sz bs (Z :: r) → Sz bs r
  | [], _ => trivial
  | _ :: _, h => (Sz.cons.1 h).2
/-- Blocks behind whole ones of twice the size. -/
theorem Sz.app {bs : Nat} (hb : 0 < bs) : ∀ {Ws : List (List Int)} {Zs : List (List Int)}, (∀ W ∈ Ws, W.length = bs) → Sz bs Zs → Sz bs (Ws ++ Zs)
  | [], _, _, h => h
  | [W], [], h1, _ => by have := h1 W (by simp); exact ⟨by omega, by omega⟩
  | [W], Z :: r, h1, h => Sz.cons.2 ⟨h1 W (by simp), h⟩
  | W :: W' :: r, Zs, h1, h => Sz.cons.2 ⟨h1 W (by simp), Sz.app hb (Ws := W' :: r) (fun A hA => h1 A (List.mem_cons_of_mem _ hA)) h⟩
/-- A row of blocks, each sorted, of numbers that came one block behind the other. -/
structure BK (key : Int → Int) (pos : Int → Nat) (o l : List Int) (Bs : List (List Int)) : Prop where
  eq : l = Bs.flatten
  perm : l.Perm o
  so : ∀ Z ∈ Bs, Z.Pairwise (Ord key pos)
  cr : Bs.Pairwise fun A B => ∀ x ∈ A, ∀ y ∈ B, pos x < pos y
section
variable {key : Int → Int} {pos : Int → Nat} {o l : List Int}
theorem flc (Z : List Int) (r : List (List Int)) : (Z :: r).flatten.length = Z.length + r.flatten.length := by rw [List.flatten_cons, List.length_append]
theorem fln : ([] : List (List Int)).flatten.length = 0 := rfl
theorem flat_len (bs : Nat) : ∀ {Ws : List (List Int)}, (∀ W ∈ Ws, W.length = bs) → Ws.flatten.length = bs * Ws.length
  | [], _ => by simp
  | W :: r, h => by
    rw [List.flatten_cons, List.length_append, h W (by simp), flat_len bs (Ws := r) fun A hA => h A (List.mem_cons_of_mem _ hA), List.length_cons, Nat.mul_add, Nat.mul_one, Nat.add_comm]
theorem BK.merge {Ws r : List (List Int)} {Z1 Z2 Z : List Int} (h : BK key pos o l (Ws ++ Z1 :: Z2 :: r)) (hp : Z.Perm (Z1 ++ Z2)) (ho : Z.Pairwise (Ord key pos)) : BK key pos o (Ws.flatten ++ (Z ++ r.flatten)) ((Ws ++ [Z]) ++ r) := by
  obtain ⟨e1, e2, e3, e4⟩ := h
  have hl : l = Ws.flatten ++ ((Z1 ++ Z2) ++ r.flatten) := by rw [e1]; simp
  refine ⟨by simp, ?_, fun A hA => ?_, ?_⟩
  · rw [hl] at e2
    exact ((hp.append_right _).append_left _).trans e2
  · rw [List.append_assoc] at hA
    rcases List.mem_append.1 hA with hA | hA
    · exact e3 A (List.mem_append_left _ hA)
    · rcases List.mem_cons.1 hA with rfl | hA
      · exact ho
      · exact e3 A (List.mem_append_right _ (List.mem_cons_of_mem _ (List.mem_cons_of_mem _ hA)))
  · obtain ⟨q1, q2, q3⟩ := List.pairwise_append.1 e4
    obtain ⟨q4, q5⟩ := List.pairwise_cons.1 q2
    obtain ⟨q6, q7⟩ := List.pairwise_cons.1 q5
    rw [List.append_assoc]
    refine List.pairwise_append.2 ⟨q1, List.pairwise_cons.2 ⟨fun B hB x hx y hy => ?_, q7⟩, fun A hA B hB x hx y hy => ?_⟩
    · rcases List.mem_append.1 (hp.mem_iff.1 hx) with hx | hx
      · exact q4 B (List.mem_cons_of_mem _ hB) x hx y hy
      · exact q6 B hB x hx y hy
    · rcases List.mem_cons.1 hB with rfl | hB
      · rcases List.mem_append.1 (hp.mem_iff.1 hy) with hy | hy
        · exact q3 A hA Z1 (by simp) x hx y hy
        · exact q3 A hA Z2 (by simp) x hx y hy
      · have hB' : B ∈ r := hB
        exact q3 A hA B (by simp [hB']) x hx y hy
end
/-- A row that is sorted up to a place in blocks of twenty. -/
def First20 (key : Int → Int) (pos : Int → Nat) (o l : List Int) (a : Nat) : Prop := ∃ Ws : List (List Int), l = Ws.flatten ++ o.drop a ∧ Ws.flatten.Perm (o.take a) ∧ (∀ W ∈ Ws, W.length = 20) ∧ (∀ W ∈ Ws, W.Pairwise (Ord key pos)) ∧ (Ws.Pairwise fun A B => ∀ x ∈ A, ∀ y ∈ B, pos x < pos y) ∧ a = 20 * Ws.length
/-- Blocks of a size. -/
def Bks (key : Int → Int) (pos : Int → Nat) (o l : List Int) (bs : Nat) : Prop := ∃ Zs, BK key pos o l Zs ∧ Sz bs Zs
/-- Up to a place in blocks of twice the size. -/
def Mid (key : Int → Int) (pos : Int → Nat) (o l : List Int) (bs a : Nat) : Prop := ∃ Ws Zs, BK key pos o l (Ws ++ Zs) ∧ (∀ W ∈ Ws, W.length = 2 * bs) ∧ Sz bs Zs ∧ a = 2 * bs * Ws.length
section
variable {key : Int → Int} {pos : Int → Nat} {o l : List Int} {a bs n : Nat}
theorem First20.len (h : First20 key pos o l a) (ha : a ≤ o.length) : l.length = o.length := by
  obtain ⟨Ws, e, hp, _⟩ := h
  have := hp.length_eq
  rw [e, List.length_append, this, List.length_take, List.length_drop]
  omega
theorem First20.perm (h : First20 key pos o l a) : l.Perm o := by
  obtain ⟨Ws, e, hp, _⟩ := h
  rw [e]
  have := hp.append_right (o.drop a)
  rwa [List.take_append_drop] at this
/-- A part of the row, with what stands ahead of it and behind it. -/
theorem First20.part (ho : o.Pairwise fun x y => pos x < pos y) (h : First20 key pos o l a) {b : Nat} (hab : a ≤ b) (hb : b ≤ o.length) : ∃ P X S, l = P ++ (X ++ S) ∧ P.length = a ∧ P.length + X.length = b ∧ (X.Pairwise fun x y => pos x < pos y) ∧
    (∀ Z, Z.Perm X → Z.Pairwise (Ord key pos) → (b = a + 20 → First20 key pos o (P ++ (Z ++ S)) b) ∧ (b = o.length → b < a + 20 → Bks key pos o (P ++ (Z ++ S)) 20)) := by
  obtain ⟨Ws, e, hp, hw, hs, hc, hl⟩ := h
  have hwl : Ws.flatten.length = a := by rw [hp.length_eq, List.length_take]; omega
  have hX : (o.drop a).take (b - a) ++ o.drop b = o.drop a := by
    have := List.take_append_drop (b - a) (o.drop a)
    rw [List.drop_drop, show a + (b - a) = b by omega] at this
    exact this
  have hXl : ((o.drop a).take (b - a)).length = b - a := by rw [List.length_take, List.length_drop]; omega
  have hcr : ∀ A ∈ Ws, ∀ x ∈ A, ∀ y ∈ o.drop a, pos x < pos y := fun A hA x hx y hy => by
    have hx' : x ∈ o.take a := hp.mem_iff.1 (List.mem_flatten.2 ⟨A, hA, hx⟩)
    have h0 : (o.take a ++ o.drop a).Pairwise fun x y => pos x < pos y := by rw [List.take_append_drop]; exact ho
    exact (List.pairwise_append.1 h0).2.2 x hx' y hy
  refine ⟨Ws.flatten, (o.drop a).take (b - a), o.drop b, by rw [e, hX], hwl, by omega, ?_, fun Z hZ hZo => ⟨fun h20 => ?_, fun hbl hlt => ?_⟩⟩
  · have h0 : (o.drop a).Pairwise fun x y => pos x < pos y := List.Pairwise.sublist (List.drop_sublist a o) ho
    exact List.Pairwise.sublist (List.take_sublist _ _) h0
  · have hZl : Z.length = 20 := by rw [hZ.length_eq, hXl]; omega
    refine ⟨Ws ++ [Z], by simp, ?_, fun W hW => ?_, fun W hW => ?_, ?_, by rw [List.length_append]; simp; omega⟩
    · have e1 : o.take b = o.take a ++ (o.drop a).take (b - a) := by
        have h1 : (o.take b).take a ++ (o.take b).drop a = o.take b := List.take_append_drop a (o.take b)
        rw [List.take_take, Nat.min_eq_left hab, List.drop_take] at h1
        exact h1.symm
      rw [e1, List.flatten_append]
      exact hp.append (by simpa using hZ)
    · rcases List.mem_append.1 hW with hW | hW
      · exact hw W hW
      · obtain rfl : W = Z := by simpa using hW
        exact hZl
    · rcases List.mem_append.1 hW with hW | hW
      · exact hs W hW
      · obtain rfl : W = Z := by simpa using hW
        exact hZo
    · refine List.pairwise_append.2 ⟨hc, List.pairwise_singleton _ _, fun A hA B hB x hx y hy => ?_⟩
      obtain rfl : B = Z := by simpa using hB
      exact hcr A hA x hx y (List.mem_of_mem_take (hZ.mem_iff.1 hy))
  · have hd0 : o.drop b = [] := by rw [List.drop_of_length_le (by omega)]
    have hXa : (o.drop a).take (b - a) = o.drop a := by rw [hd0, List.append_nil] at hX; exact hX
    rw [hXa] at hZ
    have hperm : (Ws.flatten ++ (Z ++ o.drop b)).Perm o := by
      rw [hd0, List.append_nil]
      have := hp.append hZ
      rwa [List.take_append_drop] at this
    rcases Nat.eq_zero_or_pos Z.length with hz | hz
    · have hZ0 : Z = [] := List.length_eq_zero_iff.1 hz
      subst hZ0
      refine ⟨Ws, ⟨by rw [hd0]; simp, hperm, hs, hc⟩, ?_⟩
      have := Sz.app (bs := 20) (by omega) (Zs := []) hw trivial
      rwa [List.append_nil] at this
    · refine ⟨Ws ++ [Z], ⟨by rw [hd0]; simp, hperm, fun A hA => ?_, ?_⟩, Sz.app (by omega) hw ⟨hz, by rw [hZ.length_eq, List.length_drop]; omega⟩⟩
      · rcases List.mem_append.1 hA with hA | hA
        · exact hs A hA
        · obtain rfl : A = Z := by simpa using hA
          exact hZo
      · refine List.pairwise_append.2 ⟨hc, List.pairwise_singleton _ _, fun A hA B hB x hx y hy => ?_⟩
        obtain rfl : B = Z := by simpa using hB
        exact hcr A hA x hx y (hZ.mem_iff.1 hy)
theorem Bks.mid (h : Bks key pos o l bs) : Mid key pos o l bs 0 := by
  obtain ⟨Zs, h1, h2⟩ := h
  exact ⟨[], Zs, by simpa using h1, by simp, h2, by simp⟩
/-- Two blocks to be merged. -/
theorem Mid.two (hb : 0 < bs) (h : Mid key pos o l bs a) {b : Nat} (hmn : a + bs < b) (hbn : b ≤ o.length) (hb2 : b = a + 2 * bs ∨ (b = o.length ∧ b < a + 2 * bs)) : ∃ P X Y S, l = P ++ (X ++ (Y ++ S)) ∧ P.length = a ∧ X.length = bs ∧ P.length + X.length + Y.length = b ∧ X.Pairwise (Ord key pos) ∧ Y.Pairwise (Ord key pos) ∧ (∀ x ∈ X, ∀ y ∈ Y, pos x < pos y) ∧
    (∀ Z, Z.Perm (X ++ Y) → Z.Pairwise (Ord key pos) → (b = a + 2 * bs → Mid key pos o (P ++ (Z ++ S)) bs b) ∧ (b = o.length → Bks key pos o (P ++ (Z ++ S)) (2 * bs))) := by
  obtain ⟨Ws, Zs, hK, hw, hz, ha⟩ := h
  have hwl : Ws.flatten.length = a := by rw [flat_len (2 * bs) hw, ha]
  have hlen : l.length = o.length := hK.perm.length_eq
  have hl2 : Ws.flatten.length + Zs.flatten.length = o.length := by rw [← hlen, hK.eq, List.flatten_append, List.length_append]
  cases Zs with
  | nil => rw [fln] at hl2; omega
  | cons Z1 r =>
    cases r with
    | nil => have := hz.2; rw [flc, fln] at hl2; omega
    | cons Z2 r =>
      obtain ⟨z1, z2⟩ := Sz.cons.1 hz
      have z2l := Sz.pos hb z2 Z2 (by simp)
      have hlr : Z1.length + Z2.length + r.flatten.length + a = o.length := by rw [flc, flc] at hl2; omega
      have z2s : Z2.length = b - a - bs := by
        rcases hb2 with e | ⟨e1, e2⟩
        · cases r with
          | nil => rw [fln] at hlr; omega
          | cons Z3 r' => have := (Sz.cons.1 z2).1; omega
        · cases r with
          | nil => rw [fln] at hlr; omega
          | cons Z3 r' =>
            have h1 := (Sz.cons.1 z2).1
            rw [flc] at hlr
            omega
      have hsz : Sz bs r := Sz.tail z2
      obtain ⟨q1, q2, q3⟩ := List.pairwise_append.1 hK.cr
      have hxy : ∀ x ∈ Z1, ∀ y ∈ Z2, pos x < pos y := (List.pairwise_cons.1 q2).1 Z2 (by simp)
      refine ⟨Ws.flatten, Z1, Z2, r.flatten, by rw [hK.eq]; simp, hwl, z1, by omega, hK.so Z1 (by simp), hK.so Z2 (by simp), hxy, fun Z hZ hZo => ?_⟩
      have hM := hK.merge hZ hZo
      have hZl : Z.length = b - a := by rw [hZ.length_eq, List.length_append]; omega
      refine ⟨fun e => ⟨Ws ++ [Z], r, hM, fun W hW => ?_, hsz, ?_⟩, fun e => ⟨(Ws ++ [Z]) ++ r, hM, ?_⟩⟩
      · rcases List.mem_append.1 hW with hW | hW
        · exact hw W hW
        · obtain rfl : W = Z := by simpa using hW
          omega
      · rw [List.length_append, Nat.mul_add, ← ha]; simp; omega
      · have hr0 : r.flatten.length = 0 := by omega
        have hr : r = [] := by
          cases r with
          | nil => rfl
          | cons Z3 r' => have := Sz.pos hb hsz Z3 (by simp); rw [flc] at hr0; omega
        subst hr
        rw [List.append_nil]
        exact Sz.app (by omega) hw ⟨by omega, by omega⟩
/-- No second block is left. -/
theorem Mid.rest (hb : 0 < bs) (h : Mid key pos o l bs a) (hmn : o.length ≤ a + bs) : Bks key pos o l (2 * bs) := by
  obtain ⟨Ws, Zs, hK, hw, hz, ha⟩ := h
  have hwl : Ws.flatten.length = a := by rw [flat_len (2 * bs) hw, ha]
  have hlen : l.length = o.length := hK.perm.length_eq
  have hl2 : Ws.flatten.length + Zs.flatten.length = o.length := by rw [← hlen, hK.eq, List.flatten_append, List.length_append]
  refine ⟨Ws ++ Zs, hK, Sz.app (by omega) hw ?_⟩
  cases Zs with
  | nil => trivial
  | cons Z1 r =>
    cases r with
    | nil => have := hz; exact ⟨this.1, by have := this.2; omega⟩
    | cons Z2 r =>
      obtain ⟨z1, z2⟩ := Sz.cons.1 hz
      have z2l := Sz.pos hb z2 Z2 (by simp)
      rw [flc, flc] at hl2
      omega
/-- One block is the sorted row. -/
theorem Bks.done (hb : 0 < bs) (h : Bks key pos o l bs) (hn : o.length ≤ bs) : l.Perm o ∧ l.Pairwise (Ord key pos) := by
  obtain ⟨Zs, hK, hz⟩ := h
  refine ⟨hK.perm, ?_⟩
  have hlen : l.length = o.length := hK.perm.length_eq
  cases Zs with
  | nil => rw [hK.eq]; exact List.Pairwise.nil
  | cons Z1 r =>
    cases r with
    | nil => rw [hK.eq]; simpa using hK.so Z1 (by simp)
    | cons Z2 r =>
      obtain ⟨z1, z2⟩ := Sz.cons.1 hz
      have z2l := Sz.pos hb z2 Z2 (by simp)
      rw [hK.eq, flc, flc] at hlen
      omega
end
end Go.Proofs.Ytagfhlnedaagbaa
