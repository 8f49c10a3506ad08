/-
  An ask on both readers: alike. The ask for a list.
-/
import Derived.Test.YtamcmkeoiomeiaaDoorMid
import Derived.Test.YtamcmkeoiomeiaaDoorWalkOwn
import Derived.RegionTactic
import Derived.BigQuiet
import Derived.Deep.QuietTactic
namespace Go.Proofs.YtamcmkeoiomeiaaDoor
open Go.RowKit

/-- A slice that holds the bytes t. -/
def Holds (w : World) (A : Option Addr) (t : ByteArray) : Prop := ∀ i (h : i < t.size), ∃ L, A = some ⟨L, 0, none⟩ ∧ w.cell? ⟨L, i, none⟩ = some (.int .u8 (t[i].toNat : Int))
theorem OwnB.holds {w : World} {base : Nat} {A : Option Addr} {n c : Nat} {t : ByteArray} (h : OwnB w base (.slice A n c) t) : Holds w A t := fun i hi => by
  rcases h.2 with ⟨hv, h0⟩ | ⟨g, cap, cur, hv, hg, hh, _⟩
  · omega
  · injection hv with e1 e2 e3
    subst e1
    have hc := World.ownsRow.cells h (g := g) rfl i _ (cellsOf_at t i hi)
    rw [add_lit, Nat.zero_add] at hc
    exact ⟨g, rfl, hc⟩
theorem Holds.keep {w w' : World} {A : Option Addr} {t : ByteArray} (h : Holds w A t) (hb : Below w.heap.size w w') : Holds w' A t := fun i hi => by
  obtain ⟨L, e, hc⟩ := h i hi
  exact ⟨L, e, by rw [hb.cell (p := ⟨L, i, none⟩) (cell_lt' hc)]; exact hc⟩

set_option maxHeartbeats 2000000 in
set_option maxRecDepth 100000 in
theorem same_any (A : Option Addr) (c : Nat) (t : ByteArray) (w : World) (hs : t.size ≤ 9223372036854775807) (h : Holds w A t) :
    Calls Tryd.prog 27 #[.slice A t.size c, .string t] w fun e w' => e = .returned (.bool true) ∧ Below w.heap.size w w' := by
  have H := Lib.hid h
  clear h
  go_enter Tryd.func27, Tryd.ntmps27
  go_wp2
  go_loopw [5] (fun i wr => ∃ k : Nat, k ≤ t.size ∧ Below w.heap.size w wr ∧ i = .int .i64 k) (fun i _ => t.size - (intOf i).toNat)
  case atStart => exact ⟨0, by omega, Below.refl _ _, rfl⟩
  case round =>
    obtain ⟨k, hk, hB, rfl⟩ := hrel
    have HB := Lib.hid hB
    clear hB
    by_cases hlt : k < t.size
    · obtain ⟨L, rfl, hc⟩ := (H.out.keep HB.out) k hlt
      have hki : (k : Int) < t.size := by omega
      have hk0 : (0 : Int) ≤ k := by omega
      go_wp2
      go_quiet (fail)
      go_wp2
      go_roundw
      case rel => exact ⟨k + 1, hlt, below_drewN HB.out _, by go_num⟩
      case measure => simp [intOf]; omega
    · go_wp2
      go_ret
      exact ⟨rfl, HB.out⟩

section
variable {w W : World} {g b cap k k2 : Nat} {s : ByteArray} {bad bad2 : Bool} {x y : Int}
theorem Mid.far (h : Mid w g b cap s k bad k2 bad2 x y W) {p : Addr} (hp : w.heap.size + 1 + 1 < p.block) (u : Value) : Mid w g b cap s k bad k2 bad2 x y (W.setCell p u) := by
  have hg := h.gl
  have hb := h.bl
  exact ⟨h.rd.set_far (by omega) (by omega) _, only_far h.only (by omega) _, hg, hb, (Below.heap_setCell _ _ _ _ (by omega)).trans h.m, (Below.heap_setCell _ _ _ _ (by omega)).trans h.xr, (Below.heap_setCell _ _ _ _ (by omega)).trans h.t⟩
theorem Mid.high (h : Mid w g b cap s k bad k2 bad2 x y W) : w.heap.size + 1 + 1 < W.heap.size := (Array.getElem?_eq_some_iff.1 h.t).1
theorem Mid.below {W' : World} (h : Mid w g b cap s k bad k2 bad2 x y W) (hb : Below W.heap.size W W') : Mid w g b cap s k bad k2 bad2 x y W' := h.next (h.rd.below hb) (only_below hb _)

/-- What the loop knows. -/
def RelL (w : World) (g b cap : Nat) (s : ByteArray) (k2 : Nat) (bad2 : Bool) (x y : Int) (A : Option Addr) (n : Nat) (W : World) : Prop :=
  Mid w g b cap s k2 bad2 k2 bad2 x y W ∧ Wr (fun L => w.heap.size + 1 + 1 < L) W A n
theorem RelL.set_ {L i n : Nat} {z : Int} (h : RelL w g b cap s k2 bad2 x y (some ⟨L, 0, none⟩) n W) (hL : w.heap.size + 1 + 1 < L) :
    RelL w g b cap s k2 bad2 x y (some ⟨L, 0, none⟩) n (W.setCell ⟨L, i, none⟩ (.int .u8 z)) := ⟨h.1.far hL _, h.2.set_⟩

set_option maxHeartbeats 4000000 in
set_option maxRecDepth 100000 in
theorem does_list (h : Rd w g b cap s k bad) (kd nn : Int) (h0 : kd ≠ 0) (h1 : kd ≠ 1) (h2 : kd ≠ 2) (hs : s.size ≤ 140737488355328) (k2 : Nat) (bad2 : Bool) (t : ByteArray) (e1 : nextAt s k bad nn = k2) (e2 : lacks s k bad nn = bad2) (e3 : readS s k bad nn = t) :
    Calls Tryd.prog 11 #[.pointer (some ⟨g, 0, none⟩), refV s k bad, .agg #[.int .i64 kd, .int .i64 nn]] w fun e w' => e = .returned (.tuple #[refV s k2 bad2, .bool true]) ∧ Rd w' g b cap s k2 bad2 ∧ w.grownBy w' (some g) := by
  have H := Lib.hid h
  have HT := fun W => Lib.hid (rtake_any (s := s) (k := k) nn bad W h.le h.small.1)
  have hts : t.size ≤ s.size := by
    rw [← e3]
    unfold readS
    split
    · exact Nat.zero_le _
    · rw [ByteArray.size_extract]; omega
  have HS := Lib.hid hs
  have HTS := Lib.hid hts
  rw [e1, e2, e3] at HT
  have E1 := Lib.hid e1
  have E2 := Lib.hid e2
  have E3 := Lib.hid e3
  clear h e1 e2 e3 hs hts
  unfold refV at HT ⊢
  go_enter Tryd.func11, Tryd.ntmps11
  go_wp2_with fail
  refine (HT _).out.mono ?_
  rintro e w1 ⟨rfl, hB⟩
  have hM := Mid.start H.out _ _ _ _ hB
  have c0 := hM.c0
  have c1 := hM.c1
  have c2 := hM.c2
  have x1 := hM.x1
  have f0 : w1.frozen? ⟨w.heap.size, 0, none⟩ = false := by simp [World.frozen?, hM.m]
  have f1 : w1.frozen? ⟨w.heap.size, 1, none⟩ = false := by simp [World.frozen?, hM.m]
  have f2 : w1.frozen? ⟨w.heap.size, 2, none⟩ = false := by simp [World.frozen?, hM.m]
  have HM : Hid (Mid w g b cap s k bad k2 bad2 kd nn (((w1.setCell ⟨w.heap.size, 0, none⟩ (.string s)).setCell ⟨w.heap.size, 1, none⟩ (.int .i64 (k2 : Int))).setCell ⟨w.heap.size, 2, none⟩ (.bool bad2))) := hM.laid k2 bad2
  have xx := HM.out.x1
  clear hB HT hM
  go_wp2_with fail
  clear c0 c1 c2 x1 xx f0 f1 f2
  generalize ((w1.setCell ⟨w.heap.size, 0, none⟩ (.string s)).setCell ⟨w.heap.size, 1, none⟩ (.int .i64 (k2 : Int))).setCell ⟨w.heap.size, 2, none⟩ (.bool bad2) = w2 at *
  refine (list_any HM.out.rd nn HS.out).mono ?_
  rintro e w3 ⟨v, rfl, hO, hR, hG⟩
  rw [E3.out] at hO
  rw [E1.out, E2.out] at hR
  have hM3 := HM.out.next hR hG
  obtain ⟨A, c, rfl⟩ := hO.slice
  have HH := Lib.hid (hO.holds)
  have HW := Lib.hid ((Wr.own hO rfl).mono fun L hL => Nat.lt_of_lt_of_le HM.out.high hL)
  have HM3 := Lib.hid hM3
  clear hO hR hG hM3 HM
  go_wp2_with fail
  refine (same_any A c t w3 (by have := HS.out; have := HTS.out; omega) HH.out).mono ?_
  rintro e w4 ⟨rfl, hB⟩
  have HL : Hid (RelL w g b cap s k2 bad2 kd nn A t.size w4) := ⟨HM3.out.below hB, HW.out.keep hB⟩
  have ht63 : t.size ≤ 9223372036854775807 := by have := HS.out; have := HTS.out; omega
  clear hB HH HW HM3
  go_wp2_with fail
  go_loopw [13] (fun i wr => ∃ j : Nat, RelL w g b cap s k2 bad2 kd nn A t.size wr ∧ j ≤ t.size ∧ i = .int .i64 j) (fun i _ => t.size - (intOf i).toNat)
  case atStart => exact ⟨0, HL.out, by omega, rfl⟩
  case round =>
    obtain ⟨j, hrel, hj, rfl⟩ := hrel
    have HR := Lib.hid hrel
    clear hrel HL
    by_cases hlt : j < t.size
    · obtain ⟨L, rfl, hP, ⟨z, hc⟩, hf⟩ := HR.out.2 j hlt
      have HP := Lib.hid hP
      clear hP
      go_wp2
      go_roundw
      case rel => exact ⟨j + 1, HR.out.set_ HP.out, hlt, by go_num⟩
      case measure => simp [intOf]; omega
    · obtain rfl : j = t.size := by omega
      clear hlt hj
      have d0 := HR.out.1.c0
      have d1 := HR.out.1.c1
      have d2 := HR.out.1.c2
      have t0 := HR.out.1.t0
      have t1 := HR.out.1.t1
      have t2 := HR.out.1.t2
      have g0 := HR.out.1.f 0
      have g1 := HR.out.1.f 1
      have g2 := HR.out.1.f 2
      go_wp2
      refine bodyPost_ret (v := .tuple #[.agg #[.string s, .int .i64 ((k2 : Nat) : Int), .bool bad2], .bool true]) (by simp [results, Tryd.results11, go_sem, t0, t1, t2]) rfl ⟨rfl, ?_⟩
      exact HR.out.1.done _ _ _
end
end Go.Proofs.YtamcmkeoiomeiaaDoor
