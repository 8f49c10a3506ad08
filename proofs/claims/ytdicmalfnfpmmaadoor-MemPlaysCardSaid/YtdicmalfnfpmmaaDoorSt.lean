/-
  What the document answers of a use, for every use; a memory of the call's own, with what keeps it.
-/
import Derived.Test.YtdicmalfnfpmmaaDoorRight
namespace Go.Proofs.YtdicmalfnfpmmaaDoor
open Go.RowKit

theorem right_any (K : Nat) (at' old v : Int) (A : Option Addr) (n cap : Nat) (f : Nat → Int) (c : Int) (w : World) (hK : K ≤ 5) (hA : Us w A n f) (hn : n ≤ 4096) (hc : 0 ≤ c ∧ c ≤ 1000) (hwf : WfF n f) (hv : 0 ≤ v ∧ v < 4294967296) :
    Calls Tryd.prog 13 #[.agg #[.slice A n cap, .int .i64 c], xV K at' old v] w fun e w' => RP A n (stepF K at' old v n f) (stepC n at' c) (ansS K at' old n f) (errS n at') w e w' := by
  have hD := fun W (h : Us W A n f) => do_any K at' old v A n cap f c W hK h hn hc hwf hv
  match K, hK with
  | 0, _ => exact right0 _ _ _ _ _ _ _ _ _ _ _ _ w hA hD
  | 1, _ =>
    have e : ansS 1 at' old n f = 0 := by unfold ansS ansK; split <;> rfl
    rw [e]
    exact right1 _ _ _ _ _ _ _ _ _ _ _ _ w hA hD
  | 2, _ =>
    have e : ansS 2 at' old n f = if errS n at' = 0 ∧ wasS n at' f = old then 1 else 0 := by
      unfold ansS errS wasS ansK
      by_cases h : inN n at' = true
      · simp [h]
      · simp [h]
    rw [e]
    exact right2 _ _ _ _ _ _ _ _ _ _ _ _ w hA hD
  | 3, _ => exact right3 _ _ _ _ _ _ _ _ _ _ _ _ w hA hD
  | 4, _ => exact right4 _ _ _ _ _ _ _ _ _ _ _ _ w hA hD
  | 5, _ => exact right5 _ _ _ _ _ _ _ _ _ _ _ _ w hA hD

theorem GOk.else {g b : Nat} {w w' : World} (h : GOk w) (hE : Else g b w w') (hg : 6 ≤ g) (hb : 6 ≤ b) : GOk w' := fun K hK => by
  have h5 : gK K ≤ 5 := by
    match K, hK with
    | 0, _ => decide
    | 1, _ => decide
    | 2, _ => decide
    | 3, _ => decide
    | 4, _ => decide
    | 5, _ => decide
  exact (h K hK).same (hE.block _ (h K hK).lt (by omega) (by omega))
theorem GOk.six {w : World} (h : GOk w) : 6 ≤ w.heap.size := (h 5 (by decide)).lt
theorem MemAt.congr {w : World} {g b n : Nat} {f f' : Nat → Int} {c : Int} (h : MemAt w g b n f c) (e : ∀ i, i < n → f i = f' i) : MemAt w g b n f' c :=
  ⟨h.row.congr fun i hi => by rw [e i hi], h.c0, h.c1, h.fz, h.ne⟩
/-- A memory of the call's own. -/
structure St (B : Nat) (w0 : World) (g b n : Nat) (f : Nat → Int) (c : Int) (w : World) : Prop where
  mem : MemAt w g b n f c
  bel : Below B w0 w
  b6 : 6 ≤ B
  gB : B ≤ g
  bB : B ≤ b
  hB : B ≤ w.heap.size
  gok : GOk w
theorem St.step {B : Nat} {w0 : World} {g b n : Nat} {f f' : Nat → Int} {c c' : Int} {w w' : World} (h : St B w0 g b n f c w) (hM : MemAt w' g b n f' c') (hE : Else g b w w') : St B w0 g b n f' c' w' :=
  ⟨hM, h.bel.trans (hE.below h.gB h.bB h.hB), h.b6, h.gB, h.bB, Nat.le_trans h.hB hE.size, h.gok.else hE (Nat.le_trans h.b6 h.gB) (Nat.le_trans h.b6 h.bB)⟩
theorem St.keep {B : Nat} {w0 : World} {g b n : Nat} {f : Nat → Int} {c : Int} {w w' : World} (h : St B w0 g b n f c w) (hB : Below w.heap.size w w') : St B w0 g b n f c w' :=
  ⟨h.mem.keep hB, h.bel.trans (hB.mono h.hB), h.b6, h.gB, h.bB, Nat.le_trans h.hB hB.size, h.gok.keep hB⟩
theorem St.congr {B : Nat} {w0 : World} {g b n : Nat} {f f' : Nat → Int} {c : Int} {w : World} (h : St B w0 g b n f c w) (e : ∀ i, i < n → f i = f' i) : St B w0 g b n f' c w :=
  ⟨h.mem.congr e, h.bel, h.b6, h.gB, h.bB, h.hB, h.gok⟩
theorem St.new {w w' : World} {g b n : Nat} (hG : GOk w) (hM : MemAt w' g b n (fun _ => 0) 0) (h1 : w.heap.size ≤ g) (h2 : w.heap.size ≤ b) (hB : Below w.heap.size w w') : St w.heap.size w g b n (fun _ => 0) 0 w' :=
  ⟨hM, hB, hG.six, h1, h2, hB.size, hG.keep hB⟩
/-- Two words, of which the first is 0. -/
def pt (v : Int) : Nat → Int := fun j => if j = 1 then v else 0
theorem pt_set {v u x : Int} (h : u = x) : ∀ i, i < 2 → setF (pt v) 1 u i = pt x i := fun i _ => by
  unfold setF pt
  split <;> simp [*]
section
variable {B : Nat} {w0 w : World} {g b : Nat} {c : Int}
theorem aw_store (h : St B w0 g b 2 (fun _ => 0) 0 w) :
    Calls Tryd.prog 17 #[.pointer (some ⟨g, 0, none⟩), .int .i64 1, .int .u32 5] w fun e w' => e = .returned (.int .i64 0) ∧ St B w0 g b 2 (pt 5) 1 w' :=
  (store_yes 5 1 g b 2 _ 0 w h.gok h.mem (by omega) (by omega) (by omega)).mono fun _ _ ⟨e, hM, hE⟩ => ⟨e, (h.step hM hE).congr fun i _ => by unfold setF pt afterS; split <;> rfl⟩
theorem aw_add (h : St B w0 g b 2 (pt 5) 1 w) :
    Calls Tryd.prog 20 #[.pointer (some ⟨g, 0, none⟩), .int .i64 1, .int .u32 4294967295] w fun e w' => e = .returned (.tuple #[.int .u32 5, .int .i64 0]) ∧ St B w0 g b 2 (pt 4) 2 w' :=
  (add_yes 4294967295 1 g b 2 _ 1 w h.gok h.mem (by omega) (by omega) (by omega)).mono fun _ _ ⟨e, hM, hE⟩ => ⟨e, (h.step hM hE).congr (pt_set (by decide))⟩
theorem aw_load (h : St B w0 g b 2 (pt 4) 2 w) :
    Calls Tryd.prog 19 #[.pointer (some ⟨g, 0, none⟩), .int .i64 1] w fun e w' => e = .returned (.tuple #[.int .u32 4, .int .i64 0]) ∧ St B w0 g b 2 (pt 4) 3 w' :=
  (load_yes 1 g b 2 _ 2 w h.gok h.mem (by omega) (by omega) (by omega)).mono fun _ _ ⟨e, hM, hE⟩ => ⟨e, (h.step hM hE).congr (pt_set rfl)⟩
theorem aw_swap1 (h : St B w0 g b 2 (pt 4) 3 w) :
    Calls Tryd.prog 18 #[.pointer (some ⟨g, 0, none⟩), .int .i64 1, .int .u32 5, .int .u32 9] w fun e w' => e = .returned (.tuple #[.bool false, .int .i64 0]) ∧ St B w0 g b 2 (pt 4) 4 w' :=
  (swap_yes 5 9 1 g b 2 _ 3 w h.gok h.mem (by omega) (by omega) (by omega)).mono fun _ _ ⟨e, hM, hE⟩ => ⟨e, (h.step hM hE).congr (pt_set rfl)⟩
theorem aw_swap2 (h : St B w0 g b 2 (pt 4) 4 w) :
    Calls Tryd.prog 18 #[.pointer (some ⟨g, 0, none⟩), .int .i64 1, .int .u32 4, .int .u32 9] w fun e w' => e = .returned (.tuple #[.bool true, .int .i64 0]) ∧ St B w0 g b 2 (pt 9) 5 w' :=
  (swap_yes 4 9 1 g b 2 _ 4 w h.gok h.mem (by omega) (by omega) (by omega)).mono fun _ _ ⟨e, hM, hE⟩ => ⟨e, (h.step hM hE).congr (pt_set rfl)⟩
theorem aw_or (h : St B w0 g b 2 (pt 9) 5 w) :
    Calls Tryd.prog 21 #[.pointer (some ⟨g, 0, none⟩), .int .i64 1, .int .u32 6] w fun e w' => e = .returned (.tuple #[.int .u32 9, .int .i64 0]) ∧ St B w0 g b 2 (pt 15) 6 w' :=
  (or_yes 6 1 g b 2 _ 5 w h.gok h.mem (by omega) (by omega) (by omega)).mono fun _ _ ⟨e, hM, hE⟩ => ⟨e, (h.step hM hE).congr (pt_set (by decide +kernel))⟩
theorem aw_take (h : St B w0 g b 2 (pt 15) 6 w) :
    Calls Tryd.prog 22 #[.pointer (some ⟨g, 0, none⟩), .int .i64 1] w fun e w' => e = .returned (.tuple #[.int .u32 15, .int .i64 0]) ∧ St B w0 g b 2 (pt 0) 7 w' :=
  (take_yes 1 g b 2 _ 6 w h.gok h.mem (by omega) (by omega) (by omega)).mono fun _ _ ⟨e, hM, hE⟩ => ⟨e, (h.step hM hE).congr (pt_set rfl)⟩
theorem aw_load2 (h : St B w0 g b 2 (pt 0) 7 w) :
    Calls Tryd.prog 19 #[.pointer (some ⟨g, 0, none⟩), .int .i64 2] w fun e w' => e = .returned (.tuple #[.int .u32 0, .int .i64 81]) ∧ St B w0 g b 2 (pt 0) 7 w' :=
  (load_no 2 g b 2 _ 7 w h.gok h.mem (by omega) (by omega)).mono fun _ _ ⟨e, hB⟩ => ⟨e, h.keep hB⟩
end
theorem aw_new (w : World) (hG : GOk w) :
    Calls Tryd.prog 8 #[.int .i64 2] w fun e w' => ∃ g b, e = .returned (.tuple #[.pointer (some ⟨g, 0, none⟩), .int .i64 0]) ∧ St w.heap.size w g b 2 (fun _ => 0) 0 w' :=
  Calls.mono (show Calls Tryd.prog 8 #[.int .i64 2] w _ from new_yes 2 w (by omega) (by omega)) fun _ _ ⟨g, b, e, hM, h1, h2, hB⟩ => ⟨g, b, e, St.new hG hM h1 h2 hB⟩
set_option maxHeartbeats 4000000 in
set_option maxRecDepth 100000 in
theorem awake_any (w : World) (hG : GOk w) : Calls Tryd.prog 10 #[] w fun e w' => e = .returned (.bool true) ∧ Below w.heap.size w w' := by
  have HG := Lib.hid hG
  clear hG
  go_enter Tryd.func10, Tryd.ntmps10
  go_wp2_with fail
  with_reducible refine (aw_new _ HG.out).mono ?_
  rintro e w1 ⟨g, b, rfl, h⟩
  have H1 := Lib.hid h
  clear h
  go_wp2_with fail
  with_reducible refine (aw_store H1.out).mono ?_
  rintro e w2 ⟨rfl, h⟩
  have H2 := Lib.hid h
  clear h
  go_wp2_with fail
  with_reducible refine (aw_add H2.out).mono ?_
  rintro e w3 ⟨rfl, h⟩
  have H3 := Lib.hid h
  clear h
  go_wp2_with fail
  with_reducible refine (aw_load H3.out).mono ?_
  rintro e w4 ⟨rfl, h⟩
  have H4 := Lib.hid h
  clear h
  go_wp2_with fail
  with_reducible refine (aw_swap1 H4.out).mono ?_
  rintro e w5 ⟨rfl, h⟩
  have H5 := Lib.hid h
  clear h
  go_wp2_with fail
  with_reducible refine (aw_swap2 H5.out).mono ?_
  rintro e w6 ⟨rfl, h⟩
  have H6 := Lib.hid h
  clear h
  go_wp2_with fail
  with_reducible refine (aw_or H6.out).mono ?_
  rintro e w7 ⟨rfl, h⟩
  have H7 := Lib.hid h
  clear h
  go_wp2_with fail
  with_reducible refine (aw_take H7.out).mono ?_
  rintro e w8 ⟨rfl, h⟩
  have H8 := Lib.hid h
  clear h
  go_wp2_with fail
  with_reducible refine (aw_load2 H8.out).mono ?_
  rintro e w9 ⟨rfl, h⟩
  have H9 := Lib.hid h
  clear h
  go_wp2_with fail
  with_reducible refine (words_any g b 2 _ _ _ H9.out.mem (by omega)).mono ?_
  rintro e w10 ⟨d, rfl, hO, hd, hB⟩
  have H10 := Lib.hid (H9.out.keep hB)
  have c1 := hO.cell (i := 1) (by omega)
  rw [show pt 0 1 = 0 from rfl] at c1
  clear hO hd hB
  go_wp2_with fail
  with_reducible refine (count_any g b 2 _ _ _ H10.out.mem).mono ?_
  rintro e w11 ⟨rfl, rfl⟩
  go_wp2_with fail
  go_ret
  exact ⟨rfl, H10.out.bel⟩
end Go.Proofs.YtdicmalfnfpmmaaDoor
