/-
  The walk of BlobReads: whatever is asked of a reader, it answers as the document says.
-/
import Derived.Test.YtamcmkeoiomeiaaDoorTells
import Derived.Deep.RegionWith
import Derived.Deep.DeepCutAuto
import Derived.Deep.RegionHeld3
namespace Go.Proofs.YtamcmkeoiomeiaaDoor
open Go.RowKit
namespace blobReads

/-- What the first loop knows: the bytes that were handed in may be written, the reader and the reference's are far from them. -/
def Rel1 (w : World) (g b cap M : Nat) (s : ByteArray) (W : World) : Prop :=
  Rd W g b cap s 0 false ∧ Below w.heap.size w W ∧ W.heap[M]? = some (.cells #[.string s, .int .i64 ((0 : Nat) : Int), .bool false] 27 (0, 0)) ∧ Wr (fun L => L = w.heap.size) W (some ⟨w.heap.size, 0, none⟩) s.size
theorem Rel1.set_ {w W : World} {g b cap M : Nat} {s : ByteArray} {i : Nat} {z : Int} (h : Rel1 w g b cap M s W) (hg : w.heap.size < g) (hb : w.heap.size < b) (hM : w.heap.size < M) :
    Rel1 w g b cap M s (W.setCell ⟨w.heap.size, i, none⟩ (.int .u8 z)) :=
  ⟨h.1.set_far (p := ⟨w.heap.size, i, none⟩) (by simp only; omega) (by simp only; omega) _, h.2.1.setCell (p := ⟨w.heap.size, i, none⟩) (Nat.le_refl _) _, (Below.heap_setCell _ _ _ _ (by simp only; omega)).trans h.2.2.1, h.2.2.2.set_⟩

/-- What the second loop knows. -/
def Rel2 (w : World) (g b cap M : Nat) (s : ByteArray) (W : World) : Prop :=
  ∃ k bad, Rd W g b cap s k bad ∧ Below w.heap.size w W ∧ W.heap[M]? = some (.cells #[.string s, .int .i64 (k : Int), .bool bad] 27 (0, 0))

/-- Ahead of an ask: the reference's next reader has no block yet, or has one. -/
def Pre (w : World) (g b cap M : Nat) (s : ByteArray) (k : Nat) (bad : Bool) (N : Nat) (W : World) : Prop :=
  Rd W g b cap s k bad ∧ Below w.heap.size w W ∧ W.heap[M]? = some (.cells #[.string s, .int .i64 (k : Int), .bool bad] 27 (0, 0)) ∧
    (W.heap.size = N ∨ W.heap[N]? = some (.cells #[.string ⟨#[]⟩, .int .i64 0, .bool false] 27 (0, 0)))
/-- Behind it. -/
def Mid2 (w : World) (g b cap M : Nat) (s : ByteArray) (k : Nat) (bad : Bool) (k2 : Nat) (bad2 : Bool) (N : Nat) (W W' : World) : Prop :=
  Rd W' g b cap s k2 bad2 ∧ W.grownBy W' (some g) ∧ Pre w g b cap M s k bad N W
/-- The block of the reference's next reader, if it was there ahead of the ask. -/
theorem Mid2.after {w : World} {g b cap M : Nat} {s : ByteArray} {k : Nat} {bad : Bool} {k2 : Nat} {bad2 : Bool} {N : Nat} {W W' : World} {o : Obj} (h : Mid2 w g b cap M s k bad k2 bad2 N (W.alloc o) W') (hN : N = W.heap.size) (hg : g < N) :
    W'.cell? ⟨N, 0, none⟩ = some (.string ⟨#[]⟩) ∧ W'.cell? ⟨N, 1, none⟩ = some (.int .i64 0) ∧ W'.cell? ⟨N, 2, none⟩ = some (.bool false) ∧ ∀ i, W'.frozen? ⟨N, i, none⟩ = false := by
  have hr : W'.heap[N]? = some (.cells #[.string ⟨#[]⟩, .int .i64 0, .bool false] 27 (0, 0)) := by
    rcases h.2.2.2.2.2 with h' | h'
    · simp at h'; omega
    · exact (h.2.1.block N (by simp; omega) (fun e => by injection e with e; omega)).trans h'
  exact ⟨by rw [cell_of_row W' _ 0 _ 27 (0, 0) hr]; rfl, by rw [cell_of_row W' _ 1 _ 27 (0, 0) hr]; rfl, by rw [cell_of_row W' _ 2 _ 27 (0, 0) hr]; rfl, fun i => by simp [World.frozen?, hr]⟩
/-- Behind the whole line. -/
def After (w : World) (g b cap M : Nat) (s : ByteArray) (k : Nat) (bad : Bool) (N : Nat) (W : World) : Prop :=
  ∃ k2 bad2, Rd W g b cap s k2 bad2 ∧ Below w.heap.size w W ∧ W.heap[M]? = some (.cells #[.string s, .int .i64 (k : Int), .bool bad] 27 (0, 0)) ∧
    W.heap[N]? = some (.cells #[.string s, .int .i64 (k2 : Int), .bool bad2] 27 (0, 0)) ∧ w.heap.size ≤ N ∧ N ≠ g ∧ N ≠ b ∧ N ≠ M

/-- The three, at a world. -/
def At2 (w : World) (g b cap M : Nat) (s : ByteArray) (k : Nat) (bad : Bool) (W : World) : Prop :=
  Rd W g b cap s k bad ∧ Below w.heap.size w W ∧ W.heap[M]? = some (.cells #[.string s, .int .i64 (k : Int), .bool bad] 27 (0, 0))
section
variable {w W W' : World} {g b cap M N k k2 : Nat} {s : ByteArray} {bad bad2 : Bool}
theorem At2.keep (h : At2 w g b cap M s k bad W) (hb : Below W.heap.size W W') : At2 w g b cap M s k bad W' :=
  ⟨h.1.below hb, h.2.1.trans (hb.mono h.2.1.size), (hb.block _ (Array.getElem?_eq_some_iff.1 h.2.2).1).trans h.2.2⟩
theorem At2.drewN (h : At2 w g b cap M s k bad W) (n : Nat) : At2 w g b cap M s k bad (W.drewN n) := ⟨h.1.drewN n, below_drewN h.2.1 n, h.2.2⟩
theorem At2.m0 (h : At2 w g b cap M s k bad W) : W.cell? ⟨M, 0, none⟩ = some (.string s) := by rw [cell_of_row W _ 0 _ 27 (0, 0) h.2.2]; rfl
theorem At2.m1 (h : At2 w g b cap M s k bad W) : W.cell? ⟨M, 1, none⟩ = some (.int .i64 k) := by rw [cell_of_row W _ 1 _ 27 (0, 0) h.2.2]; rfl
theorem At2.m2 (h : At2 w g b cap M s k bad W) : W.cell? ⟨M, 2, none⟩ = some (.bool bad) := by rw [cell_of_row W _ 2 _ 27 (0, 0) h.2.2]; rfl
theorem At2.f (h : At2 w g b cap M s k bad W) (i : Nat) : W.frozen? ⟨M, i, none⟩ = false := frozen_of_row W M i _ 27 h.2.2
/-- The reference's reader is laid anew. -/
theorem At2.laid (h : Rd W g b cap s k2 bad2) (hB : Below w.heap.size w W) (hM : W.heap[M]? = some (.cells #[.string s, .int .i64 (k : Int), .bool bad] 27 (0, 0))) (hg : g ≠ M) (hb : b ≠ M) (hw : w.heap.size ≤ M) :
    At2 w g b cap M s k2 bad2 (((W.setCell ⟨M, 0, none⟩ (.string s)).setCell ⟨M, 1, none⟩ (.int .i64 (k2 : Int))).setCell ⟨M, 2, none⟩ (.bool bad2)) :=
  ⟨((h.set_far (p := ⟨M, 0, none⟩) hg hb _).set_far (p := ⟨M, 1, none⟩) hg hb _).set_far (p := ⟨M, 2, none⟩) hg hb _,
    ((hB.setCell (p := ⟨M, 0, none⟩) hw _).setCell (p := ⟨M, 1, none⟩) hw _).setCell (p := ⟨M, 2, none⟩) hw _, by simp [World.setCell, Array.getElem?_modify, hM]⟩
theorem Mid2.below (h : Mid2 w g b cap M s k bad k2 bad2 N W W') (hw : w.heap.size < g) : Below w.heap.size w W' :=
  have hb := h.2.2.2.1
  ⟨h.2.1.os.trans hb.os, h.2.1.tape.trans hb.tape, h.2.1.output.trans hb.output, Nat.le_trans hb.size h.2.1.size,
    fun i hi => (h.2.1.block i (Nat.lt_of_lt_of_le hi hb.size) (fun e => by injection e with e; omega)).trans (hb.block i hi)⟩
theorem Mid2.row (h : Mid2 w g b cap M s k bad k2 bad2 N W W') (hM : M ≠ g) : W'.heap[M]? = some (.cells #[.string s, .int .i64 (k : Int), .bool bad] 27 (0, 0)) :=
  (h.2.1.block M (Array.getElem?_eq_some_iff.1 h.2.2.2.2.1).1 (fun e => by injection e with e; omega)).trans h.2.2.2.2.1
/-- The call, then the block. -/
theorem Mid2.late (h : Mid2 w g b cap M s k bad k2 bad2 N W W') (hw : w.heap.size < g) (hM : M ≠ g) :
    After w g b cap M s k bad W'.heap.size (W'.alloc (.cells #[.string s, .int .i64 (k2 : Int), .bool bad2] 27)) :=
  have hb := h.below hw
  have hr := h.row hM
  have hl : M < W'.heap.size := (Array.getElem?_eq_some_iff.1 hr).1
  ⟨k2, bad2, h.1.below ((Below.refl _ _).alloc (Nat.le_refl _) _), hb.alloc hb.size _, (Below.heap_alloc _ _ _ hl).trans hr, heap_alloc_new _ _, hb.size, by have := h.1.glt; omega, by have := h.1.lt; omega, by omega⟩
/-- The block, then the call. -/
theorem Mid2.early {o : Obj} (h : Mid2 w g b cap M s k bad k2 bad2 N (W.alloc o) W') (hN : N = W.heap.size) (hw : w.heap.size < g) (hM : M ≠ g) (hg : g < N) (hb : b < N) (hl : M < N) (hwN : w.heap.size ≤ N) :
    After w g b cap M s k bad N (((W'.setCell ⟨N, 0, none⟩ (.string s)).setCell ⟨N, 1, none⟩ (.int .i64 (k2 : Int))).setCell ⟨N, 2, none⟩ (.bool bad2)) := by
  have hr : W'.heap[N]? = some (.cells #[.string ⟨#[]⟩, .int .i64 0, .bool false] 27 (0, 0)) := by
    rcases h.2.2.2.2.2 with h' | h'
    · simp at h'; omega
    · exact (h.2.1.block N (by simp; omega) (fun e => by injection e with e; omega)).trans h'
  have hg' : g ≠ N := by omega
  have hb' : b ≠ N := by omega
  refine ⟨k2, bad2, ((h.1.set_far (p := ⟨N, 0, none⟩) hg' hb' _).set_far (p := ⟨N, 1, none⟩) hg' hb' _).set_far (p := ⟨N, 2, none⟩) hg' hb' _,
    (((h.below hw).setCell (p := ⟨N, 0, none⟩) hwN _).setCell (p := ⟨N, 1, none⟩) hwN _).setCell (p := ⟨N, 2, none⟩) hwN _, ?_, by simp [World.setCell, Array.getElem?_modify, hr], hwN, by omega, by omega, by omega⟩
  rw [Below.heap_setCell _ _ _ _ (by simp only; omega), Below.heap_setCell _ _ _ _ (by simp only; omega), Below.heap_setCell _ _ _ _ (by simp only; omega)]
  exact h.row hM
end
set_option maxHeartbeats 8000000 in
set_option maxRecDepth 100000 in
theorem walk (s : ByteArray) (A : Option Addr) (n c : Nat) (f : Nat → Int × Int) (w : World) (hG : GOk w) (hs : s.size ≤ 140737488351232)
    (hn : n ≤ 9223372036854775807) (ha : Asks w A n f) :
    Calls Tryd.prog 3 #[.string s, .slice A n c] w fun e w' => e = .returned (.bool true) ∧ Below w.heap.size w w' := by
  have HG := Lib.hid hG
  have h0 := hG.lt
  have HS := Lib.hid hs
  have HA := Lib.hid ha
  have kc := conv_run s
  have hs63 : s.size ≤ 9223372036854775807 := by omega
  clear hG hs ha
  go_enter Tryd.func3, Tryd.ntmps3
  go_wp2_with fail
  refine (new_any ⟨w.heap.size, 0, none⟩ _ s _ (convW_at w s) (by have := HS.out; omega)).mono ?_
  rintro e w1 ⟨g, b, cap, rfl, hR, hg0, hb0, hB⟩
  rw [convW_size] at hg0 hb0
  have hgl := hR.glt
  have hbl := hR.lt
  have HR := Lib.hid hR
  have HW := Lib.hid ((Wr.conv (fun L => L = w.heap.size) w s rfl).keep hB)
  have HB := Lib.hid ((convW_below w s).trans (hB.mono (by rw [convW_size]; omega)))
  clear hR hB kc
  have hB1 : Below w1.heap.size w1 (w1.alloc (.cells #[.string s, .int .i64 0, .bool false] 27)) := (Below.refl _ _).alloc (Nat.le_refl _) _
  have HB1 := Lib.hid (HB.out.trans (hB1.mono HB.out.size))
  have HR1 := Lib.hid (HR.out.below hB1)
  have HW1 := Lib.hid (HW.out.keep hB1)
  have HM1 : Hid ((w1.alloc (.cells #[.string s, .int .i64 0, .bool false] 27)).heap[w1.heap.size]? = some (.cells #[.string s, .int .i64 ((0 : Nat) : Int), .bool false] 27 (0, 0))) := heap_alloc_new _ _
  have hMs : w1.heap.size < (w1.alloc (.cells #[.string s, .int .i64 0, .bool false] 27)).heap.size := by simp
  have hwM : w.heap.size < w1.heap.size := by omega
  clear hB1 HB HR HW
  go_wp2_with fail
  refine (awake_any _ (HG.out.below HB1.out h0)).mono ?_
  rintro e w2 ⟨rfl, hB⟩
  have HL : Hid (Rel1 w g b cap w1.heap.size s w2) := ⟨HR1.out.below hB, HB1.out.trans (hB.mono HB1.out.size), (hB.block _ hMs).trans HM1.out, HW1.out.keep hB⟩
  clear hB HB1 HR1 HW1 HM1 hMs
  generalize w1.heap.size = M at *
  have hgw : w.heap.size < g := by omega
  have hbw : w.heap.size < b := by omega
  go_wp2_with fail
  go_loopw [8] (fun i wr => ∃ j : Nat, Rel1 w g b cap M s wr ∧ j ≤ s.size ∧ i = .int .i64 j) (fun i _ => s.size - (intOf i).toNat)
  case atStart => exact ⟨0, HL.out, by omega, rfl⟩
  case round =>
    obtain ⟨j, hrel, hj, rfl⟩ := hrel
    have HR := Lib.hid hrel
    clear hrel HL
    by_cases hlt : j < s.size
    · obtain ⟨L, hL, hP, ⟨x, hc⟩, hf⟩ := HR.out.2.2.2 j hlt
      obtain rfl : L = w.heap.size := hP
      clear hL
      go_wp2
      go_roundw
      case rel => exact ⟨j + 1, HR.out.set_ hgw hbw hwM, hlt, by go_num⟩
      case measure => simp [intOf]; omega
    · obtain rfl : j = s.size := by omega
      clear hlt hj
      have HL : Hid (Rel2 w g b cap M s wr) := ⟨0, false, HR.out.1, HR.out.2.1, HR.out.2.2.1⟩
      clear HR
      go_wp2_with fail
      go_loopw [9] (fun i wr => ∃ j : Nat, Rel2 w g b cap M s wr ∧ j ≤ n ∧ i = .int .i64 j) (fun i _ => n - (intOf i).toNat)
      case atStart => exact ⟨0, HL.out, by omega, rfl⟩
      case round =>
        obtain ⟨j, ⟨k, bad, hR, hB, hM⟩, hj, rfl⟩ := hrel
        have HR := Lib.hid hR
        have HB := Lib.hid hB
        have HM := Lib.hid hM
        clear hR hB hM HL
        by_cases hlt : j < n ∧ j < 100
        · obtain ⟨hl1, hl2⟩ := hlt
          obtain ⟨ab, ao, rfl, hc1, hc2⟩ := (HA.out.keep HB.out) j hl1
          have m0 : wr.cell? ⟨M, 0, none⟩ = some (.string s) := by rw [cell_of_row wr _ 0 _ 27 (0, 0) HM.out]; rfl
          have m1 : wr.cell? ⟨M, 1, none⟩ = some (.int .i64 k) := by rw [cell_of_row wr _ 1 _ 27 (0, 0) HM.out]; rfl
          have m2 : wr.cell? ⟨M, 2, none⟩ = some (.bool bad) := by rw [cell_of_row wr _ 2 _ 27 (0, 0) HM.out]; rfl
          have CD : Hid (∀ W, Rd W g b cap s k bad → Calls Tryd.prog 11 #[.pointer (some ⟨g, 0, none⟩), .agg #[.string s, .int .i64 k, .bool bad], .agg #[.int .i64 (f j).1, .int .i64 (f j).2]] W fun e w' => ∃ k2 bad2, e = .returned (.tuple #[.agg #[.string s, .int .i64 (k2 : Nat), .bool bad2], .bool true]) ∧ Rd w' g b cap s k2 bad2 ∧ W.grownBy w' (some g)) := fun W hW => does_any hW _ _ (by have := HS.out; omega)
          go_wp2_with fail
          have CE : Hid (∀ W, Pre w g b cap M s k bad wr.heap.size W → Calls Tryd.prog 11 #[.pointer (some ⟨g, 0, none⟩), .agg #[.string s, .int .i64 k, .bool bad], .agg #[.int .i64 (f j).1, .int .i64 (f j).2]] W fun e w' => ∃ k2 bad2, e = .returned (.tuple #[.agg #[.string s, .int .i64 (k2 : Nat), .bool bad2], .bool true]) ∧ Mid2 w g b cap M s k bad k2 bad2 wr.heap.size W w') := fun W hW =>
            (CD.out W hW.1).mono fun _ _ ⟨k2, bad2, he, hR, hO⟩ => ⟨k2, bad2, he, hR, hO, hW⟩
          have P1 : Hid (Pre w g b cap M s k bad wr.heap.size wr.drew) := ⟨HR.out.drewN 1, HB.out.drew, HM.out, .inl rfl⟩
          have P2 : Hid (Pre w g b cap M s k bad wr.heap.size (wr.drew.alloc (.cells #[.string ⟨#[]⟩, .int .i64 0, .bool false] 27))) := ⟨(HR.out.drewN 1).below ((Below.refl _ _).alloc (Nat.le_refl _) _), HB.out.drew.alloc HB.out.size _, (Below.heap_alloc _ _ _ (Array.getElem?_eq_some_iff.1 HM.out).1).trans HM.out, .inr (heap_alloc_new _ _)⟩
          have hzM : M < wr.heap.size := (Array.getElem?_eq_some_iff.1 HM.out).1
          have hzA : ab < wr.heap.size := cell_lt' hc1
          clear CD
          have hMg : M ≠ g := by omega
          have hMb : M ≠ b := by omega
          have hgN : g < wr.heap.size := HR.out.glt
          have hbN : b < wr.heap.size := HR.out.lt
          have hwN : w.heap.size ≤ wr.heap.size := HB.out.size
          go_cut [10, 11] (fun p v wx => ∃ N : Nat, p = .pointer (some ⟨N, 0, none⟩) ∧ v = .bool true ∧ After w g b cap M s k bad N wx)
          case first =>
            go_region_with (first
              | (go_at_call 11; (with_reducible refine (CE.out _ ?_).mono ?_); exact P1.out; rintro e wc ⟨k2, bad2, rfl, hM2⟩; have MC := Lib.hid hM2; clear hM2)
              | (go_at_call 11; (with_reducible refine (CE.out _ ?_).mono ?_); exact P2.out; rintro e wc ⟨k2, bad2, rfl, hM2⟩; have MD := Lib.hid hM2; go_loud (have r := Mid2.after (W := wr.drew) hM2 rfl HR.out.glt); have z0 := r.1; have z1 := r.2.1; have z2 := r.2.2.1; have y0 := r.2.2.2 0; have y1 := r.2.2.2 1; have y2 := r.2.2.2 2; clear r hM2))
            all_goals go_wp2_with fail
            all_goals go_meet
            all_goals first
              | exact ⟨_, rfl, rfl, MC.out.late hgw hMg⟩
              | exact ⟨_, rfl, rfl, Mid2.early (W := wr.drew) MD.out rfl hgw hMg hgN hbN hzM hwN⟩
          case rest =>
            obtain ⟨N, rfl, rfl, k2, bad2, hR, hB, hM, hN, hwN, hNg, hNb, hNM⟩ := hcut
            clear HR HB HM P1 P2 CE m0 m1 m2
            have n0 := (show wc.cell? ⟨N, 0, none⟩ = some (.string s) by rw [cell_of_row wc _ 0 _ 27 (0, 0) hN]; rfl)
            have n1 := (show wc.cell? ⟨N, 1, none⟩ = some (.int .i64 k2) by rw [cell_of_row wc _ 1 _ 27 (0, 0) hN]; rfl)
            have n2 := (show wc.cell? ⟨N, 2, none⟩ = some (.bool bad2) by rw [cell_of_row wc _ 2 _ 27 (0, 0) hN]; rfl)
            have o0 := (show wc.cell? ⟨M, 0, none⟩ = some (.string s) by rw [cell_of_row wc _ 0 _ 27 (0, 0) hM]; rfl)
            have o1 := (show wc.cell? ⟨M, 1, none⟩ = some (.int .i64 k) by rw [cell_of_row wc _ 1 _ 27 (0, 0) hM]; rfl)
            have o2 := (show wc.cell? ⟨M, 2, none⟩ = some (.bool bad) by rw [cell_of_row wc _ 2 _ 27 (0, 0) hM]; rfl)
            have q0 := frozen_of_row wc M 0 _ 27 hM
            have q1 := frozen_of_row wc M 1 _ 27 hM
            have q2 := frozen_of_row wc M 2 _ 27 hM
            have H2 := Lib.hid (At2.laid hR hB hM (fun e => hMg e.symm) (fun e => hMb e.symm) (Nat.le_of_lt hwM))
            have r0 := H2.out.m0
            have r1 := H2.out.m1
            have r2 := H2.out.m2
            clear hR hB hM hN
            go_wp2_with fail
            clear n0 n1 n2 o0 o1 o2 q0 q1 q2 r0 r1 r2
            generalize ((wc.setCell ⟨M, 0, none⟩ (.string s)).setCell ⟨M, 1, none⟩ (.int .i64 (k2 : Int))).setCell ⟨M, 2, none⟩ (.bool bad2) = w3 at *
            refine (err_tells H2.out.1).mono ?_
            rintro e w4 ⟨E, rfl, hT, hB⟩
            have H3 := Lib.hid (H2.out.keep hB)
            have HT := Lib.hid hT
            clear hB hT H2
            go_wp2_with fail
            refine (HT.out _ (Below.refl _ _) (HG.out.below H3.out.2.1 h0)).mono ?_
            rintro e w5 ⟨rfl, hB⟩
            have H4 := Lib.hid (H3.out.keep hB)
            clear hB HT H3
            have m0 := H4.out.m0
            have m1 := H4.out.m1
            have m2 := H4.out.m2
            go_wp2_with fail
            have HE : Hid (∀ W, Calls Tryd.prog 14 #[.agg #[.string s, .int .i64 (k2 : Int), .bool bad2]] W fun e w' => e = .returned (.tuple #[.int .i64 (errN bad2), .int .i64 (errA k2 bad2)]) ∧ Below W.heap.size W w') := fun W => rerr_any bad2 W
            refine (HE.out _).mono ?_
            rintro e w6 ⟨rfl, hB⟩
            have H5 := Lib.hid (H4.out.keep hB)
            clear hB H4 m0 m1 m2
            go_wp2_with fail
            refine (end_tells H5.out.1).mono ?_
            rintro e w7 ⟨E2, rfl, hT, hB⟩
            have H6 := Lib.hid (H5.out.keep hB)
            have HT := Lib.hid hT
            clear hB hT H5
            go_wp2_with fail
            refine (HT.out _ (Below.refl _ _) (HG.out.below H6.out.2.1 h0)).mono ?_
            rintro e w8 ⟨rfl, hB⟩
            have H8 := Lib.hid (H6.out.keep hB)
            clear hB HT H6
            have m0 := H8.out.m0
            have m1 := H8.out.m1
            have m2 := H8.out.m2
            go_wp2_with fail
            have HF : Hid (∀ W, Calls Tryd.prog 16 #[.agg #[.string s, .int .i64 (k2 : Int), .bool bad2]] W fun e w' => e = .returned (.tuple #[.int .i64 (endN s k2 bad2), .int .i64 (endA s k2 bad2)]) ∧ Below W.heap.size W w') := fun W => rend_any bad2 W
            refine (HF.out _).mono ?_
            rintro e w9 ⟨rfl, hB⟩
            have H7 := Lib.hid (H8.out.keep hB)
            clear hB H8 m0 m1 m2
            have m0 := H7.out.m0
            have m1 := H7.out.m1
            have m2 := H7.out.m2
            have p1 := H7.out.1.c1
            go_upto_region 19 with fail
            refine wp_region_any (by kernel_rfl) ?_
            try (change wpAny _ _ _ _ _ _ _ (World.drew _))
            refine wpAny_take (i := 0) (v := ?_) rfl (by kernel_rfl) (by kernel_rfl) (by kernel_rfl) (fun _ _ _ h => h) (Or.inl ⟨by rfl, ?_⟩) ?_
            rotate_left
            · intro w0; go_simp; try with_reducible rfl
            go_simp
            refine wpAny_take (i := 1) (v := ?_) rfl (by kernel_rfl) (by kernel_rfl) (by kernel_rfl) (fun _ _ _ h => h) (Or.inl ⟨by rfl, ?_⟩) ?_
            rotate_left
            · intro w0; go_simp; try with_reducible rfl
            go_simp
            refine wpAny_take (i := 2) (v := ?_) rfl (by kernel_rfl) (by kernel_rfl) (by kernel_rfl) (fun _ _ _ h => h) (Or.inl ⟨by rfl, ?_⟩) ?_
            rotate_left
            · intro w0; go_simp; try with_reducible rfl
            go_simp
            refine wpAny_take (i := 3) (v := ?_) rfl (by kernel_rfl) (by kernel_rfl) (by kernel_rfl) (fun _ _ _ h => h) (Or.inl ⟨by rfl, ?_⟩) ?_
            rotate_left
            · intro w0; go_simp; try with_reducible rfl
            go_simp
            refine wpAny_take (i := 5) (v := ?_) rfl (by kernel_rfl) (by kernel_rfl) (by kernel_rfl) (fun _ _ _ h => h) (Or.inl ⟨by rfl, ?_⟩) ?_
            rotate_left
            · intro w0; go_simp; try with_reducible rfl
            go_simp
            refine wpAny_ready (rs := [4, 6]) (by kernel_rfl) (by simp) (AllReady.cons rfl (fun K hK => ?_) (AllReady.cons rfl (fun K hK => ?_) AllReady.nil))
            · go_simp
              refine (at_any (H7.out.1.drewN 1)).mono ?_
              rintro e w' ⟨rfl, rfl⟩
              go_simp
              refine hK _ _ ?_
              clear hK K
              refine wpAny_ready (rs := [6]) (by kernel_rfl) (by simp) (AllReady.cons rfl (fun K hK => ?_) AllReady.nil)
              go_simp
              refine hK _ _ ?_
              clear hK K
              refine wpAny_take (i := 7) (v := ?_) rfl (by kernel_rfl) (by kernel_rfl) (by kernel_rfl) (fun _ _ _ h => h) (Or.inl ⟨by rfl, ?_⟩) ?_
              rotate_left
              · intro w0; go_simp; try with_reducible rfl
              go_simp
              refine wpAny_take (i := 8) (v := ?_) rfl (by kernel_rfl) (by kernel_rfl) (by kernel_rfl) (fun _ _ _ h => h) (Or.inl ⟨by rfl, ?_⟩) ?_
              rotate_left
              · intro w0; go_simp; try with_reducible rfl
              go_simp
              refine wpAny_take (i := 9) (v := ?_) rfl (by kernel_rfl) (by kernel_rfl) (by kernel_rfl) (fun _ _ _ h => h) (Or.inl ⟨by rfl, ?_⟩) ?_
              rotate_left
              · intro w0; go_simp; try with_reducible rfl
              go_simp
              refine wpAny_take (i := 10) (v := ?_) rfl (by kernel_rfl) (by kernel_rfl) (by kernel_rfl) (fun _ _ _ h => h) (Or.inl ⟨by rfl, ?_⟩) ?_
              rotate_left
              · intro w0; go_simp; try with_reducible rfl
              go_simp
              refine wpAny_take (i := 11) (v := ?_) rfl (by kernel_rfl) (by kernel_rfl) (by kernel_rfl) (fun _ _ _ h => h) (Or.inl ⟨by rfl, ?_⟩) ?_
              rotate_left
              · intro w0; go_simp; try with_reducible rfl
              go_simp
              refine wpAny_take (i := 12) (v := ?_) rfl (by kernel_rfl) (by kernel_rfl) (by kernel_rfl) (fun _ _ _ h => h) (Or.inl ⟨by rfl, ?_⟩) ?_
              rotate_left
              · intro w0; go_simp; try with_reducible rfl
              go_simp
              refine wpAny_take (i := 13) (v := ?_) rfl (by kernel_rfl) (by kernel_rfl) (by kernel_rfl) (fun _ _ _ h => h) (Or.inl ⟨by rfl, ?_⟩) ?_
              rotate_left
              · intro w0; go_simp; try with_reducible rfl
              go_simp
              refine wpAny_take (i := 14) (v := ?_) rfl (by kernel_rfl) (by kernel_rfl) (by kernel_rfl) (fun _ _ _ h => h) (Or.inl ⟨by rfl, ?_⟩) ?_
              rotate_left
              · intro w0; go_simp; try with_reducible rfl
              go_simp
              refine wpAny_take (i := 15) (v := ?_) rfl (by kernel_rfl) (by kernel_rfl) (by kernel_rfl) (fun _ _ _ h => h) (Or.inl ⟨by rfl, ?_⟩) ?_
              rotate_left
              · intro w0; go_simp; try with_reducible rfl
              go_simp
              refine wpAny_take (i := 16) (v := ?_) rfl (by kernel_rfl) (by kernel_rfl) (by kernel_rfl) (fun _ _ _ h => h) (Or.inl ⟨by rfl, ?_⟩) ?_
              rotate_left
              · intro w0; go_simp; try with_reducible rfl
              go_simp
              refine wpAny_take (i := 17) (v := ?_) rfl (by kernel_rfl) (by kernel_rfl) (by kernel_rfl) (fun _ _ _ h => h) (Or.inl ⟨by rfl, ?_⟩) ?_
              rotate_left
              · intro w0; go_simp; try with_reducible rfl
              go_simp
              refine wpAny_take (i := 18) (v := ?_) rfl (by kernel_rfl) (by kernel_rfl) (by kernel_rfl) (fun _ _ _ h => h) (Or.inl ⟨by rfl, ?_⟩) ?_
              rotate_left
              · intro w0; go_simp; try with_reducible rfl
              go_simp
              refine wpAny_take (i := 19) (v := ?_) rfl (by kernel_rfl) (by kernel_rfl) (by kernel_rfl) (fun _ _ _ h => h) (Or.inl ⟨by rfl, ?_⟩) ?_
              rotate_left
              · intro w0; go_simp; try with_reducible rfl
              go_simp
              refine wpAny_take (i := 20) (v := ?_) rfl (by kernel_rfl) (by kernel_rfl) (by kernel_rfl) (fun _ _ _ h => h) (Or.inl ⟨by rfl, ?_⟩) ?_
              rotate_left
              · intro w0; go_simp; try with_reducible rfl
              go_simp
              refine wpAny_take (i := 21) (v := ?_) rfl (by kernel_rfl) (by kernel_rfl) (by kernel_rfl) (fun _ _ _ h => h) (Or.inl ⟨by rfl, ?_⟩) ?_
              rotate_left
              · intro w0; go_simp; try with_reducible rfl
              go_simp
              refine wpAny_take (i := 22) (v := ?_) rfl (by kernel_rfl) (by kernel_rfl) (by kernel_rfl) (fun _ _ _ h => h) (Or.inl ⟨by rfl, ?_⟩) ?_
              rotate_left
              · intro w0; go_simp; try with_reducible rfl
              go_simp
              refine wpAny_take (i := 23) (v := ?_) rfl (by kernel_rfl) (by kernel_rfl) (by kernel_rfl) (fun _ _ _ h => h) (Or.inl ⟨by rfl, ?_⟩) ?_
              rotate_left
              · intro w0; go_simp; try with_reducible rfl
              go_simp
              refine wpAny_take (i := 24) (v := ?_) rfl (by kernel_rfl) (by kernel_rfl) (by kernel_rfl) (fun _ _ _ h => h) (Or.inl ⟨by rfl, ?_⟩) ?_
              rotate_left
              · intro w0; go_simp; try with_reducible rfl
              go_simp
              refine wpAny_take (i := 25) (v := ?_) rfl (by kernel_rfl) (by kernel_rfl) (by kernel_rfl) (fun _ _ _ h => h) (Or.inl ⟨by rfl, ?_⟩) ?_
              rotate_left
              · intro w0; go_simp; try with_reducible rfl
              go_simp
              refine wpAny_take (i := 26) (v := ?_) rfl (by kernel_rfl) (by kernel_rfl) (by kernel_rfl) (fun _ _ _ h => h) (Or.inl ⟨by rfl, ?_⟩) ?_
              rotate_left
              · intro w0; go_simp; try with_reducible rfl
              go_simp
              refine wpAny_take (i := 27) (v := ?_) rfl (by kernel_rfl) (by kernel_rfl) (by kernel_rfl) (fun _ _ _ h => h) (Or.inl ⟨by rfl, ?_⟩) ?_
              rotate_left
              · intro w0; go_simp; try with_reducible rfl
              go_simp
              refine wpAny_take (i := 28) (v := ?_) rfl (by kernel_rfl) (by kernel_rfl) (by kernel_rfl) (fun _ _ _ h => h) (Or.inl ⟨by rfl, ?_⟩) ?_
              rotate_left
              · intro w0; go_simp; try with_reducible rfl
              go_simp
              refine wpAny_done (by kernel_rfl) ?_ _
              go_wp2
              go_roundw
              case rel => exact ⟨j + 1, ⟨k2, bad2, H7.out.drewN 1⟩, hl1, by go_num⟩
              case measure => simp [intOf]; omega
            · go_simp
              refine hK _ _ ?_
              clear hK K
              refine wpAny_ready (rs := [4]) (by kernel_rfl) (by simp) (AllReady.cons rfl (fun K hK => ?_) AllReady.nil)
              go_simp
              refine (at_any (H7.out.1.drewN 1)).mono ?_
              rintro e w' ⟨rfl, rfl⟩
              go_simp
              refine hK _ _ ?_
              clear hK K
              refine wpAny_take (i := 7) (v := ?_) rfl (by kernel_rfl) (by kernel_rfl) (by kernel_rfl) (fun _ _ _ h => h) (Or.inl ⟨by rfl, ?_⟩) ?_
              rotate_left
              · intro w0; go_simp; try with_reducible rfl
              go_simp
              refine wpAny_take (i := 8) (v := ?_) rfl (by kernel_rfl) (by kernel_rfl) (by kernel_rfl) (fun _ _ _ h => h) (Or.inl ⟨by rfl, ?_⟩) ?_
              rotate_left
              · intro w0; go_simp; try with_reducible rfl
              go_simp
              refine wpAny_take (i := 9) (v := ?_) rfl (by kernel_rfl) (by kernel_rfl) (by kernel_rfl) (fun _ _ _ h => h) (Or.inl ⟨by rfl, ?_⟩) ?_
              rotate_left
              · intro w0; go_simp; try with_reducible rfl
              go_simp
              refine wpAny_take (i := 10) (v := ?_) rfl (by kernel_rfl) (by kernel_rfl) (by kernel_rfl) (fun _ _ _ h => h) (Or.inl ⟨by rfl, ?_⟩) ?_
              rotate_left
              · intro w0; go_simp; try with_reducible rfl
              go_simp
              refine wpAny_take (i := 11) (v := ?_) rfl (by kernel_rfl) (by kernel_rfl) (by kernel_rfl) (fun _ _ _ h => h) (Or.inl ⟨by rfl, ?_⟩) ?_
              rotate_left
              · intro w0; go_simp; try with_reducible rfl
              go_simp
              refine wpAny_take (i := 12) (v := ?_) rfl (by kernel_rfl) (by kernel_rfl) (by kernel_rfl) (fun _ _ _ h => h) (Or.inl ⟨by rfl, ?_⟩) ?_
              rotate_left
              · intro w0; go_simp; try with_reducible rfl
              go_simp
              refine wpAny_take (i := 13) (v := ?_) rfl (by kernel_rfl) (by kernel_rfl) (by kernel_rfl) (fun _ _ _ h => h) (Or.inl ⟨by rfl, ?_⟩) ?_
              rotate_left
              · intro w0; go_simp; try with_reducible rfl
              go_simp
              refine wpAny_take (i := 14) (v := ?_) rfl (by kernel_rfl) (by kernel_rfl) (by kernel_rfl) (fun _ _ _ h => h) (Or.inl ⟨by rfl, ?_⟩) ?_
              rotate_left
              · intro w0; go_simp; try with_reducible rfl
              go_simp
              refine wpAny_take (i := 15) (v := ?_) rfl (by kernel_rfl) (by kernel_rfl) (by kernel_rfl) (fun _ _ _ h => h) (Or.inl ⟨by rfl, ?_⟩) ?_
              rotate_left
              · intro w0; go_simp; try with_reducible rfl
              go_simp
              refine wpAny_take (i := 16) (v := ?_) rfl (by kernel_rfl) (by kernel_rfl) (by kernel_rfl) (fun _ _ _ h => h) (Or.inl ⟨by rfl, ?_⟩) ?_
              rotate_left
              · intro w0; go_simp; try with_reducible rfl
              go_simp
              refine wpAny_take (i := 17) (v := ?_) rfl (by kernel_rfl) (by kernel_rfl) (by kernel_rfl) (fun _ _ _ h => h) (Or.inl ⟨by rfl, ?_⟩) ?_
              rotate_left
              · intro w0; go_simp; try with_reducible rfl
              go_simp
              refine wpAny_take (i := 18) (v := ?_) rfl (by kernel_rfl) (by kernel_rfl) (by kernel_rfl) (fun _ _ _ h => h) (Or.inl ⟨by rfl, ?_⟩) ?_
              rotate_left
              · intro w0; go_simp; try with_reducible rfl
              go_simp
              refine wpAny_take (i := 19) (v := ?_) rfl (by kernel_rfl) (by kernel_rfl) (by kernel_rfl) (fun _ _ _ h => h) (Or.inl ⟨by rfl, ?_⟩) ?_
              rotate_left
              · intro w0; go_simp; try with_reducible rfl
              go_simp
              refine wpAny_take (i := 20) (v := ?_) rfl (by kernel_rfl) (by kernel_rfl) (by kernel_rfl) (fun _ _ _ h => h) (Or.inl ⟨by rfl, ?_⟩) ?_
              rotate_left
              · intro w0; go_simp; try with_reducible rfl
              go_simp
              refine wpAny_take (i := 21) (v := ?_) rfl (by kernel_rfl) (by kernel_rfl) (by kernel_rfl) (fun _ _ _ h => h) (Or.inl ⟨by rfl, ?_⟩) ?_
              rotate_left
              · intro w0; go_simp; try with_reducible rfl
              go_simp
              refine wpAny_take (i := 22) (v := ?_) rfl (by kernel_rfl) (by kernel_rfl) (by kernel_rfl) (fun _ _ _ h => h) (Or.inl ⟨by rfl, ?_⟩) ?_
              rotate_left
              · intro w0; go_simp; try with_reducible rfl
              go_simp
              refine wpAny_take (i := 23) (v := ?_) rfl (by kernel_rfl) (by kernel_rfl) (by kernel_rfl) (fun _ _ _ h => h) (Or.inl ⟨by rfl, ?_⟩) ?_
              rotate_left
              · intro w0; go_simp; try with_reducible rfl
              go_simp
              refine wpAny_take (i := 24) (v := ?_) rfl (by kernel_rfl) (by kernel_rfl) (by kernel_rfl) (fun _ _ _ h => h) (Or.inl ⟨by rfl, ?_⟩) ?_
              rotate_left
              · intro w0; go_simp; try with_reducible rfl
              go_simp
              refine wpAny_take (i := 25) (v := ?_) rfl (by kernel_rfl) (by kernel_rfl) (by kernel_rfl) (fun _ _ _ h => h) (Or.inl ⟨by rfl, ?_⟩) ?_
              rotate_left
              · intro w0; go_simp; try with_reducible rfl
              go_simp
              refine wpAny_take (i := 26) (v := ?_) rfl (by kernel_rfl) (by kernel_rfl) (by kernel_rfl) (fun _ _ _ h => h) (Or.inl ⟨by rfl, ?_⟩) ?_
              rotate_left
              · intro w0; go_simp; try with_reducible rfl
              go_simp
              refine wpAny_take (i := 27) (v := ?_) rfl (by kernel_rfl) (by kernel_rfl) (by kernel_rfl) (fun _ _ _ h => h) (Or.inl ⟨by rfl, ?_⟩) ?_
              rotate_left
              · intro w0; go_simp; try with_reducible rfl
              go_simp
              refine wpAny_take (i := 28) (v := ?_) rfl (by kernel_rfl) (by kernel_rfl) (by kernel_rfl) (fun _ _ _ h => h) (Or.inl ⟨by rfl, ?_⟩) ?_
              rotate_left
              · intro w0; go_simp; try with_reducible rfl
              go_simp
              refine wpAny_done (by kernel_rfl) ?_ _
              go_wp2
              go_roundw
              case rel => exact ⟨j + 1, ⟨k2, bad2, H7.out.drewN 1⟩, hl1, by go_num⟩
              case measure => simp [intOf]; omega
        · have hex : (n ≤ j) ∨ (j < n ∧ 100 ≤ j) := by omega
          clear hlt
          rcases hex with hge | ⟨hl1, hl2⟩
          all_goals
            go_wp2
            go_ret
            exact ⟨rfl, HB.out⟩
end blobReads
end Go.Proofs.YtamcmkeoiomeiaaDoor
