/-
  The chapter's examples: awake answers true, in any memory that holds the table of bits, and changes nothing that was there.
-/
import Derived.Test.YtphdlplbcajemaaDoorCores
namespace Go.Proofs.YtphdlplbcajemaaDoor
open Go.RowKit

theorem aw_room1 (w : World) : Calls Tryd.prog 16 #[.int .u32 4294967295, .int .u32 2, .int .u32 4] w fun e w' => e = .returned (.tuple #[.int .u32 1, .int .i64 0]) ∧ w = w' :=
  (room_any 4294967295 2 4 w (by omega) (by omega)).mono fun _ _ ⟨h, hw⟩ => ⟨h.trans (ret_ui ⟨by decide +kernel, by decide +kernel⟩), hw⟩
theorem aw_room2 (w : World) : Calls Tryd.prog 16 #[.int .u32 0, .int .u32 0, .int .u32 3] w fun e w' => e = .returned (.tuple #[.int .u32 0, .int .i64 10]) ∧ w = w' :=
  (room_any 0 0 3 w (by omega) (by omega)).mono fun _ _ ⟨h, hw⟩ => ⟨h.trans (ret_ui ⟨by decide +kernel, by decide +kernel⟩), hw⟩
theorem aw_slot (w : World) : Calls Tryd.prog 18 #[.int .u32 4294967295, .int .u32 8] w fun e w' => e = .returned (.tuple #[.int .u32 7, .int .i64 0]) ∧ w = w' :=
  (slot_any 4294967295 8 w (by omega) (by omega) (by omega)).mono fun _ _ ⟨h, hw⟩ => ⟨h.trans (ret_ui ⟨by decide +kernel, by decide +kernel⟩), hw⟩
theorem aw_of (v : Value) (w : World) (h : Sl w v [2, 0, 2]) (ht : TabOk w) : Calls Tryd.prog 20 #[v] w fun e w' => e = .returned (.tuple #[.int .u8 5, .int .i64 0]) ∧ Below w.heap.size w w' :=
  (of_any v [2, 0, 2] w h ht).mono fun _ _ ⟨h, hw⟩ => ⟨h.trans (ret_si ⟨by decide +kernel, by decide +kernel⟩), hw⟩
theorem aw_first (w : World) (ht : TabOk w) : Calls Tryd.prog 22 #[.int .u8 5] w fun e w' => e = .returned (.tuple #[.int .i64 0, .bool true]) ∧ w = w' :=
  (first_any 5 w ht).mono fun _ _ ⟨h, hw⟩ => ⟨h.trans (ret_ib ⟨by decide +kernel, by decide +kernel⟩), hw⟩
theorem aw_cores (w : World) (ht : TabOk w) : Calls Tryd.prog 27 #[.int .u8 5] w fun e w' => ∃ b off cap, e = .returned (.slice (some ⟨b, off, none⟩) 2 cap) ∧ w'.cell? ⟨b, off + 1, none⟩ = some (.int .i64 2) ∧ Below w.heap.size w w' :=
  (cores_any 5 w ht).mono fun _ w' ⟨v, he, ho, hb⟩ => by
    have e : coresL (hasB 5) 8 = [0, 2] := by decide +kernel
    rw [e] at ho
    obtain ⟨_, ⟨h, _⟩ | ⟨b, off, cap, rfl, hc⟩⟩ := ho.sl (by decide)
    · cases h
    · exact ⟨b, off, cap, he, hc 1 (by decide), hb⟩
theorem aw_where (w : World) (ht : TabOk w) : Calls Tryd.prog 28 #[.int .i64 3, .func (.func 31) #[] #[]] w fun e w' => e = .returned (.int .u8 6) ∧ w = w' :=
  (where_low 31 #[] 3 3 (fun k => decide (0 < k)) w (fun _ W => w = W) enters31 (by omega) (by omega) (.inl ⟨by omega, rfl⟩) rfl (fun _ _ e => e ▸ ht)
    (fun k W _ hW => by subst hW; exact awake1_any k w)).mono fun _ _ ⟨h, hw⟩ => ⟨h.trans (ret_u (by decide +kernel)), hw⟩
theorem aw_used (w : World) : Calls Tryd.prog 12 #[.int .u32 4294967295, .int .u32 2] w fun e w' => e = .returned (.int .u32 3) ∧ w = w' :=
  (used_any 4294967295 2 w).mono fun _ _ ⟨h, hw⟩ => ⟨h.trans (ret_u (by decide +kernel)), hw⟩
theorem aw_before (w : World) : Calls Tryd.prog 14 #[.int .u32 4294967295, .int .u32 0] w fun e w' => e = .returned (.bool true) ∧ w = w' :=
  (before_any 4294967295 0 w).mono fun _ _ ⟨h, hw⟩ => ⟨h.trans (ret_b (by decide +kernel)), hw⟩
theorem aw_has (w : World) (ht : TabOk w) : Calls Tryd.prog 24 #[.int .u8 5, .int .i64 2] w fun e w' => e = .returned (.bool true) ∧ w = w' :=
  (has_any 5 2 w ht).mono fun _ _ ⟨h, hw⟩ => ⟨h.trans (ret_b (by decide +kernel)), hw⟩

set_option maxHeartbeats 1000000 in
set_option maxRecDepth 100000 in
theorem awake_any (w : World) (ht : TabOk w) :
    Calls Tryd.prog 11 #[] w fun e w' => e = .returned (.bool true) ∧ Below w.heap.size w w' := by
  have hB1 : Below w.heap.size w (w.alloc (.cells #[.int .i64 2, .int .i64 0, .int .i64 2] 3)) := (Below.refl _ _).alloc (Nat.le_refl _) _
  have HS : Hid (Sl (w.alloc (.cells #[.int .i64 2, .int .i64 0, .int .i64 2] 3)) (.slice (some ⟨w.heap.size, 0, none⟩) 3 3) [2, 0, 2]) :=
    ⟨by decide, .inr ⟨w.heap.size, 0, 3, rfl, fun i hi => by
      rw [World.cell?_alloc_at _ _ _ _ rfl]
      match i, hi with
      | 0, _ => rfl
      | 1, _ => rfl
      | 2, _ => rfl⟩⟩
  have HT := Lib.hid ht
  have HB1 := Lib.hid hB1
  clear hB1 ht
  go_enter Tryd.func11, Tryd.ntmps11
  go_wp2_with (first | (go_at_call 16; first | (with_reducible refine (aw_room1 _).mono ?_; rintro e w' ⟨rfl, rfl⟩) | (with_reducible refine (aw_room2 _).mono ?_; rintro e w' ⟨rfl, rfl⟩)) | (go_at_call 18; refine (aw_slot _).mono ?_; rintro e w' ⟨rfl, rfl⟩))
  refine (aw_of _ _ HS.out (HT.out.below HB1.out)).mono ?_
  rintro e w1 ⟨rfl, hB2⟩
  have HT1 := Lib.hid ((HT.out.below HB1.out).below hB2)
  have HB2 := Lib.hid (HB1.out.trans (hB2.mono (by simp)))
  clear hB2
  go_wp2_with (go_at_call 22; refine (aw_first _ HT1.out).mono ?_; rintro e w' ⟨rfl, rfl⟩)
  refine (aw_cores _ HT1.out).mono ?_
  rintro e w2 ⟨b, off, cap, rfl, hc, hB3⟩
  have HT2 := Lib.hid (HT1.out.below hB3)
  have HB3 := Lib.hid (HB2.out.trans (hB3.mono HB2.out.size))
  clear hB3
  go_wp2_with (first | (go_at_call 28; refine (aw_where _ HT2.out).mono ?_; rintro e w' ⟨rfl, rfl⟩) | (go_at_call 12; refine (aw_used _).mono ?_; rintro e w' ⟨rfl, rfl⟩) | (go_at_call 14; refine (aw_before _).mono ?_; rintro e w' ⟨rfl, rfl⟩) | (go_at_call 24; refine (aw_has _ HT2.out).mono ?_; rintro e w' ⟨rfl, rfl⟩))
  go_ret
  exact ⟨rfl, HB3.out⟩
end Go.Proofs.YtphdlplbcajemaaDoor
