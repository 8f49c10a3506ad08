/-
  The walk of MemAdds.
-/
import Derived.Test.YtdicmalfnfpmmaaDoorSt
namespace Go.Proofs.YtdicmalfnfpmmaaDoor
open Go.RowKit

theorem one_set {f : Nat → Int} {u x : Int} (h : u = x) : ∀ i, i < 1 → setF f 0 u i = x := fun i hi => by
  obtain rfl : i = 0 := by omega
  unfold setF
  rw [if_pos rfl, h]
theorem nat_or_and (b x : Nat) : (b ||| x) &&& x = x := by
  apply Nat.eq_of_testBit_eq
  intro i
  simp only [Nat.testBit_and, Nat.testBit_or]
  cases Nat.testBit b i <;> cases Nat.testBit x i <;> rfl
theorem nat_or_not {b x : Nat} (hx : x < 4294967296) : (b ||| x) &&& (4294967295 - x) = b &&& (4294967295 - x) := by
  apply Nat.eq_of_testBit_eq
  intro i
  have h : (4294967295 - x).testBit i = (decide (i < 32) && !x.testBit i) := by
    have := Nat.testBit_two_pow_sub_succ (n := 32) hx i
    rw [show 2 ^ 32 - (x + 1) = 4294967295 - x by omega] at this
    exact this
  simp only [Nat.testBit_and, Nat.testBit_or, h]
  cases Nat.testBit b i <;> cases Nat.testBit x i <;> simp
theorem or_rng {b x : Int} (hb : 0 ≤ b ∧ b < 4294967296) (hx : 0 ≤ x ∧ x < 4294967296) : 0 ≤ bits .or .u32 b x ∧ bits .or .u32 b x < 4294967296 := after_wf (K := 4) (old := 0) hx hb
theorem or_and {b x : Int} (hb : 0 ≤ b ∧ b < 4294967296) (hx : 0 ≤ x ∧ x < 4294967296) : bits .and .u32 (bits .or .u32 b x) x = x := by
  obtain ⟨m, rfl⟩ := Int.eq_ofNat_of_zero_le hb.1
  obtain ⟨n, rfl⟩ := Int.eq_ofNat_of_zero_le hx.1
  have : m ||| n < 2 ^ 32 := Nat.or_lt_two_pow (by omega) (by omega)
  rw [u32_or_nat m n (by omega) (by omega), u32_and_nat _ _ (by omega) (by omega), nat_or_and]
theorem or_not {b x : Int} (hb : 0 ≤ b ∧ b < 4294967296) (hx : 0 ≤ x ∧ x < 4294967296) : bits .andNot .u32 (bits .or .u32 b x) x = bits .andNot .u32 b x := by
  obtain ⟨m, rfl⟩ := Int.eq_ofNat_of_zero_le hb.1
  obtain ⟨n, rfl⟩ := Int.eq_ofNat_of_zero_le hx.1
  have : m ||| n < 2 ^ 32 := Nat.or_lt_two_pow (by omega) (by omega)
  rw [u32_or_nat m n (by omega) (by omega), u32_andNot_nat _ _ (by omega) (by omega), u32_andNot_nat _ _ (by omega) (by omega), nat_or_not (by omega)]

theorem ad_new (w : World) (hG : GOk w) :
    Calls Tryd.prog 8 #[.int .i64 1] w fun e w' => ∃ g b, e = .returned (.tuple #[.pointer (some ⟨g, 0, none⟩), .int .i64 0]) ∧ St w.heap.size w g b 1 (fun _ => 0) 0 w' :=
  Calls.mono (show Calls Tryd.prog 8 #[.int .i64 1] w _ from new_yes 1 w (by omega) (by omega)) fun _ _ ⟨g, b, e, hM, h1, h2, hB⟩ => ⟨g, b, e, St.new hG hM h1 h2 hB⟩
section
variable {B : Nat} {w0 w : World} {g b : Nat} {c : Int}
theorem ad_store (v : Int) (h : St B w0 g b 1 (fun _ => 0) 0 w) :
    Calls Tryd.prog 17 #[.pointer (some ⟨g, 0, none⟩), .int .i64 0, .int .u32 v] w fun e w' => e = .returned (.int .i64 0) ∧ St B w0 g b 1 (fun _ => v) 1 w' :=
  (store_yes v 0 g b 1 _ 0 w h.gok h.mem (by omega) (by omega) (by omega)).mono fun _ _ ⟨e, hM, hE⟩ => ⟨e, (h.step hM hE).congr (one_set rfl)⟩
theorem ad_add (v d : Int) (h : St B w0 g b 1 (fun _ => v) 1 w) :
    Calls Tryd.prog 20 #[.pointer (some ⟨g, 0, none⟩), .int .i64 0, .int .u32 d] w fun e w' => e = .returned (.tuple #[.int .u32 v, .int .i64 0]) ∧ St B w0 g b 1 (fun _ => IntKind.u32.wrap (v + d)) 2 w' :=
  (add_yes d 0 g b 1 _ 1 w h.gok h.mem (by omega) (by omega) (by omega)).mono fun _ _ ⟨e, hM, hE⟩ => ⟨e, (h.step hM hE).congr (one_set rfl)⟩
theorem ad_or (v x : Int) (h : St B w0 g b 1 (fun _ => v) 2 w) :
    Calls Tryd.prog 21 #[.pointer (some ⟨g, 0, none⟩), .int .i64 0, .int .u32 x] w fun e w' => e = .returned (.tuple #[.int .u32 v, .int .i64 0]) ∧ St B w0 g b 1 (fun _ => bits .or .u32 v x) 3 w' :=
  (or_yes x 0 g b 1 _ 2 w h.gok h.mem (by omega) (by omega) (by omega)).mono fun _ _ ⟨e, hM, hE⟩ => ⟨e, (h.step hM hE).congr (one_set rfl)⟩
theorem ad_take (v : Int) (h : St B w0 g b 1 (fun _ => v) 3 w) :
    Calls Tryd.prog 22 #[.pointer (some ⟨g, 0, none⟩), .int .i64 0] w fun e w' => e = .returned (.tuple #[.int .u32 v, .int .i64 0]) ∧ St B w0 g b 1 (fun _ => 0) 4 w' :=
  (take_yes 0 g b 1 _ 3 w h.gok h.mem (by omega) (by omega) (by omega)).mono fun _ _ ⟨e, hM, hE⟩ => ⟨e, (h.step hM hE).congr (one_set rfl)⟩
theorem ad_load (h : St B w0 g b 1 (fun _ => 0) 4 w) :
    Calls Tryd.prog 19 #[.pointer (some ⟨g, 0, none⟩), .int .i64 0] w fun e w' => e = .returned (.tuple #[.int .u32 0, .int .i64 0]) ∧ St B w0 g b 1 (fun _ => 0) 5 w' :=
  (load_yes 0 g b 1 _ 4 w h.gok h.mem (by omega) (by omega) (by omega)).mono fun _ _ ⟨e, hM, hE⟩ => ⟨e, (h.step hM hE).congr (one_set rfl)⟩
end
set_option maxHeartbeats 4000000 in
set_option maxRecDepth 100000 in
theorem walk_adds (v d x : Int) (w : World) (hG : GOk w) (_ : 0 ≤ v ∧ v < 4294967296) (hd : 0 ≤ d ∧ d < 4294967296) (hx : 0 ≤ x ∧ x < 4294967296) :
    Calls Tryd.prog 7 #[.int .u32 v, .int .u32 d, .int .u32 x] w fun e w' => e = .returned (.bool true) ∧ Below w.heap.size w w' := by
  have HG := Lib.hid hG
  have hy0 : 0 ≤ IntKind.u32.wrap (v + d) ∧ IntKind.u32.wrap (v + d) < 4294967296 := by rw [IntKind.wrap_u32']; omega
  have e1 : IntKind.u32.wrap (IntKind.u32.wrap (v + d) - v) = d := by rw [IntKind.wrap_u32', IntKind.wrap_u32']; omega
  have e2 := or_and hy0 hx
  have e3 := or_not hy0 hx
  have HAD := Lib.hid (fun (B : Nat) (w0 w : World) (g b : Nat) h => ad_add (B := B) (w0 := w0) (w := w) (g := g) (b := b) v d h)
  generalize IntKind.u32.wrap (v + d) = y at *
  have hc0 := or_rng hy0 hx
  have HOR := Lib.hid (fun (B : Nat) (w0 w : World) (g b : Nat) h => ad_or (B := B) (w0 := w0) (w := w) (g := g) (b := b) y x h)
  generalize bits .or .u32 y x = z at *
  rw [IntKind.wrap_u32'] at e1
  clear hG
  go_enter Tryd.func7, Tryd.ntmps7
  go_wp2_with fail
  with_reducible refine (ad_new _ HG.out).mono ?_
  rintro e w1 ⟨g, b, rfl, h⟩
  have H1 := Lib.hid h
  clear h
  go_wp2_with fail
  with_reducible refine (awake_any _ H1.out.gok).mono ?_
  rintro e w2 ⟨rfl, h⟩
  have H2 := Lib.hid (H1.out.keep h)
  clear h
  go_wp2_with fail
  with_reducible refine (ad_store v H2.out).mono ?_
  rintro e w3 ⟨rfl, h⟩
  have H3 := Lib.hid h
  clear h
  go_wp2_with fail
  with_reducible refine (HAD.out _ _ _ _ _ H3.out).mono ?_
  rintro e w4 ⟨rfl, h⟩
  have H4 := Lib.hid h
  clear h
  go_wp2_with fail
  with_reducible refine (HOR.out _ _ _ _ _ H4.out).mono ?_
  rintro e w5 ⟨rfl, h⟩
  have H5 := Lib.hid h
  clear h
  go_wp2_with fail
  with_reducible refine (ad_take z H5.out).mono ?_
  rintro e w6 ⟨rfl, h⟩
  have H6 := Lib.hid h
  clear h
  go_wp2_with fail
  with_reducible refine (ad_load H6.out).mono ?_
  rintro e w7 ⟨rfl, h⟩
  have H7 := Lib.hid h
  clear h
  go_wp2_with fail
  go_ret
  exact ⟨by first | rfl | simp [e1, e2, e3], H7.out.bel⟩
end Go.Proofs.YtdicmalfnfpmmaaDoor
