/-
  An ask on both readers: alike. The asks for one byte, for two, and for a text.
-/
import Derived.Test.YtamcmkeoiomeiaaDoorMid
import Derived.Deep.RegionWith
import Derived.Laws.Closers25b
import Derived.RegionTactic
import Derived.BigQuiet
import Derived.Deep.QuietTactic
namespace Go.Proofs.YtamcmkeoiomeiaaDoor
open Go.RowKit

theorem empty_lit : (⟨#[]⟩ : ByteArray).toList.isEmpty = true := by
  rw [(toList_nil_iff_emptyBytes (⟨#[]⟩ : ByteArray)).2 rfl]
  rfl
theorem empty_not {t : ByteArray} (h : 0 < t.size) : t.toList.isEmpty = false := by
  cases hl : t.toList with
  | nil =>
    rw [(toList_nil_iff_emptyBytes t).1 hl] at h
    exact absurd h (by decide)
  | cons a l => rfl
theorem piece_size (s : ByteArray) (k m : Nat) (h : k + m ≤ s.size) : (s.extract k (k + m)).size = m := by simp [ByteArray.size_extract]; omega
theorem piece_at (s : ByteArray) (k m i : Nat) (h : k + m ≤ s.size) (hi : i < (s.extract k (k + m)).size) : (((s.extract k (k + m))[i]).toNat : Int) = byteI s (k + i) := by
  have hm := piece_size s k m h
  rw [← byteI_at (show k + i < s.size by omega)]
  simp [ByteArray.getElem_extract]

section
variable {w : World} {g b cap k : Nat} {s : ByteArray} {bad : Bool}
set_option maxHeartbeats 4000000 in
set_option maxRecDepth 100000 in
theorem does_eight_no (h : Rd w g b cap s k bad) (nn : Int) (hl : lacks s k bad 1 = true) :
    Calls Tryd.prog 11 #[.pointer (some ⟨g, 0, none⟩), refV s k bad, .agg #[.int .i64 0, .int .i64 nn]] w fun e w' => e = .returned (.tuple #[refV s k true, .bool true]) ∧ Rd w' g b cap s k true ∧ w.grownBy w' (some g) := by
  have H := Lib.hid h
  have HT := fun W => Lib.hid (rtake_any (s := s) (k := k) 1 bad W h.le h.small.1)
  have en : nextAt s k bad 1 = k := by simp [nextAt, hl]
  have er : readS s k bad 1 = ⟨#[]⟩ := by simp [readS, hl]
  rw [en, er, hl] at HT
  have HL := Lib.hid hl
  clear h en er hl
  unfold refV at HT ⊢
  have he := empty_lit
  go_enter Tryd.func11, Tryd.ntmps11
  go_wp2_with fail
  refine (HT _).out.mono ?_
  rintro e w1 ⟨rfl, hB⟩
  have hM := Mid.start H.out _ _ _ _ hB
  have c0 := hM.c0
  have c1 := hM.c1
  have c2 := hM.c2
  have f0 : w1.frozen? ⟨w.heap.size, 0, none⟩ = false := by simp [World.frozen?, hM.m]
  have f1 : w1.frozen? ⟨w.heap.size, 1, none⟩ = false := by simp [World.frozen?, hM.m]
  have f2 : w1.frozen? ⟨w.heap.size, 2, none⟩ = false := by simp [World.frozen?, hM.m]
  have HM : Hid (Mid w g b cap s k bad (k) true 0 nn (((w1.setCell ⟨w.heap.size, 0, none⟩ (.string s)).setCell ⟨w.heap.size, 1, none⟩ (.int .i64 ((k : Int)))).setCell ⟨w.heap.size, 2, none⟩ (.bool true))) := hM.laid (k) true
  clear hB HT hM
  go_wp2_with fail
  clear c0 c1 c2 f0 f1 f2
  have d0 := HM.out.c0
  have d1 := HM.out.c1
  have d2 := HM.out.c2
  have x0 := HM.out.x0
  have x1 := HM.out.x1
  have t0 := HM.out.t0
  have t1 := HM.out.t1
  have t2 := HM.out.t2
  have g0 := HM.out.f 0
  have g1 := HM.out.f 1
  have g2 := HM.out.f 2
  generalize ((w1.setCell ⟨w.heap.size, 0, none⟩ (.string s)).setCell ⟨w.heap.size, 1, none⟩ (.int .i64 ((k : Int)))).setCell ⟨w.heap.size, 2, none⟩ (.bool true) = w2 at *
  have C8 : Hid (∀ W, Mid w g b cap s k bad k true 0 nn W → Calls Tryd.prog 22 #[.pointer (some ⟨g, 0, none⟩)] W fun e w' => e = .returned (.int .u8 0) ∧ Mid w g b cap s k true k true 0 nn w') := fun W hW =>
    (eight_no hW.rd HL.out).mono fun _ _ ⟨he, hr, ho⟩ => ⟨he, hW.next hr ho⟩
  go_region_with (go_at_call 22; ((with_reducible refine (C8.out _ ?_).mono ?_); (first | exact HM.out | exact HM.out.drew); rintro e wc ⟨rfl, hM⟩; have MC := Lib.hid hM; have d0 := hM.c0; have d1 := hM.c1; have d2 := hM.c2; have x0 := hM.x0; have x1 := hM.x1; have t0 := hM.t0; have t1 := hM.t1; have t2 := hM.t2; have g0 := hM.f 0; have g1 := hM.f 1; have g2 := hM.f 2; clear hM))
  all_goals
    go_wp2
    refine bodyPost_ret (v := .tuple #[.agg #[.string s, .int .i64 ((k : Nat) : Int), .bool true], .bool true]) (by simp [results, Tryd.results11, go_sem, t0, t1, t2]) rfl ⟨rfl, ?_⟩
    first | exact MC.out.done _ _ _ | exact MC.out.drew.done _ _ _

set_option maxHeartbeats 4000000 in
set_option maxRecDepth 100000 in
theorem does_sixteen_no (h : Rd w g b cap s k bad) (nn : Int) (hl : lacks s k bad 2 = true) :
    Calls Tryd.prog 11 #[.pointer (some ⟨g, 0, none⟩), refV s k bad, .agg #[.int .i64 1, .int .i64 nn]] w fun e w' => e = .returned (.tuple #[refV s k true, .bool true]) ∧ Rd w' g b cap s k true ∧ w.grownBy w' (some g) := by
  have H := Lib.hid h
  have HT := fun W => Lib.hid (rtake_any (s := s) (k := k) 2 bad W h.le h.small.1)
  have en : nextAt s k bad 2 = k := by simp [nextAt, hl]
  have er : readS s k bad 2 = ⟨#[]⟩ := by simp [readS, hl]
  rw [en, er, hl] at HT
  have HL := Lib.hid hl
  clear h en er hl
  unfold refV at HT ⊢
  have he := empty_lit
  go_enter Tryd.func11, Tryd.ntmps11
  go_wp2_with fail
  refine (HT _).out.mono ?_
  rintro e w1 ⟨rfl, hB⟩
  have hM := Mid.start H.out _ _ _ _ hB
  have c0 := hM.c0
  have c1 := hM.c1
  have c2 := hM.c2
  have f0 : w1.frozen? ⟨w.heap.size, 0, none⟩ = false := by simp [World.frozen?, hM.m]
  have f1 : w1.frozen? ⟨w.heap.size, 1, none⟩ = false := by simp [World.frozen?, hM.m]
  have f2 : w1.frozen? ⟨w.heap.size, 2, none⟩ = false := by simp [World.frozen?, hM.m]
  have HM : Hid (Mid w g b cap s k bad (k) true 1 nn (((w1.setCell ⟨w.heap.size, 0, none⟩ (.string s)).setCell ⟨w.heap.size, 1, none⟩ (.int .i64 ((k : Int)))).setCell ⟨w.heap.size, 2, none⟩ (.bool true))) := hM.laid (k) true
  clear hB HT hM
  go_wp2_with fail
  clear c0 c1 c2 f0 f1 f2
  have d0 := HM.out.c0
  have d1 := HM.out.c1
  have d2 := HM.out.c2
  have x0 := HM.out.x0
  have x1 := HM.out.x1
  have t0 := HM.out.t0
  have t1 := HM.out.t1
  have t2 := HM.out.t2
  have g0 := HM.out.f 0
  have g1 := HM.out.f 1
  have g2 := HM.out.f 2
  generalize ((w1.setCell ⟨w.heap.size, 0, none⟩ (.string s)).setCell ⟨w.heap.size, 1, none⟩ (.int .i64 ((k : Int)))).setCell ⟨w.heap.size, 2, none⟩ (.bool true) = w2 at *
  have C8 : Hid (∀ W, Mid w g b cap s k bad k true 1 nn W → Calls Tryd.prog 21 #[.pointer (some ⟨g, 0, none⟩)] W fun e w' => e = .returned (.int .u16 0) ∧ Mid w g b cap s k true k true 1 nn w') := fun W hW =>
    (sixteen_no hW.rd HL.out).mono fun _ _ ⟨he, hr, ho⟩ => ⟨he, hW.next hr ho⟩
  go_region_with (go_at_call 21; ((with_reducible refine (C8.out _ ?_).mono ?_); (first | exact HM.out | exact HM.out.drew); rintro e wc ⟨rfl, hM⟩; have MC := Lib.hid hM; have d0 := hM.c0; have d1 := hM.c1; have d2 := hM.c2; have x0 := hM.x0; have x1 := hM.x1; have t0 := hM.t0; have t1 := hM.t1; have t2 := hM.t2; have g0 := hM.f 0; have g1 := hM.f 1; have g2 := hM.f 2; clear hM))
  all_goals
    go_wp2
    refine bodyPost_ret (v := .tuple #[.agg #[.string s, .int .i64 ((k : Nat) : Int), .bool true], .bool true]) (by simp [results, Tryd.results11, go_sem, t0, t1, t2]) rfl ⟨rfl, ?_⟩
    first | exact MC.out.done _ _ _ | exact MC.out.drew.done _ _ _

set_option maxHeartbeats 4000000 in
set_option maxRecDepth 100000 in
theorem does_eight_ok (h : Rd w g b cap s k false) (nn : Int) (hk : k + 1 ≤ s.size) :
    Calls Tryd.prog 11 #[.pointer (some ⟨g, 0, none⟩), refV s k false, .agg #[.int .i64 0, .int .i64 nn]] w fun e w' => e = .returned (.tuple #[refV s (k + 1) false, .bool true]) ∧ Rd w' g b cap s (k + 1) false ∧ w.grownBy w' (some g) := by
  have H := Lib.hid h
  have hz := piece_size s k 1 hk
  have hp : 0 < (s.extract k (k + 1)).size := by omega
  have HV := Lib.hid (piece_at s k 1 0 hk hp)
  have hne := empty_not hp
  have HT := fun W => Lib.hid (rtake_yes (s := s) (k := k) 1 W hk h.small.1 (by omega))
  have HK := Lib.hid hk
  generalize s.extract k (k + 1) = t at *
  have HZ := Lib.hid hz
  clear h hz hk
  unfold refV at HT ⊢
  have he := empty_lit
  go_enter Tryd.func11, Tryd.ntmps11
  go_wp2_with fail
  refine (HT _).out.mono ?_
  rintro e w1 ⟨rfl, hB⟩
  have hM := Mid.start H.out _ _ _ _ hB
  have c0 := hM.c0
  have c1 := hM.c1
  have c2 := hM.c2
  have f0 : w1.frozen? ⟨w.heap.size, 0, none⟩ = false := by simp [World.frozen?, hM.m]
  have f1 : w1.frozen? ⟨w.heap.size, 1, none⟩ = false := by simp [World.frozen?, hM.m]
  have f2 : w1.frozen? ⟨w.heap.size, 2, none⟩ = false := by simp [World.frozen?, hM.m]
  have HM : Hid (Mid w g b cap s k false (k + 1) false 0 nn (((w1.setCell ⟨w.heap.size, 0, none⟩ (.string s)).setCell ⟨w.heap.size, 1, none⟩ (.int .i64 ((k : Int) + 1))).setCell ⟨w.heap.size, 2, none⟩ (.bool false))) := hM.laid (k + 1) false
  clear hB HT hM
  go_wp2_with fail
  clear c0 c1 c2 f0 f1 f2
  have d0 := HM.out.c0
  have d1 := HM.out.c1
  have d2 := HM.out.c2
  have x0 := HM.out.x0
  have x1 := HM.out.x1
  have t0 := HM.out.t0
  have t1 := HM.out.t1
  have t2 := HM.out.t2
  have g0 := HM.out.f 0
  have g1 := HM.out.f 1
  have g2 := HM.out.f 2
  generalize ((w1.setCell ⟨w.heap.size, 0, none⟩ (.string s)).setCell ⟨w.heap.size, 1, none⟩ (.int .i64 ((k : Int) + 1))).setCell ⟨w.heap.size, 2, none⟩ (.bool false) = w2 at *
  have C8 : Hid (∀ W, Mid w g b cap s k false (k + 1) false 0 nn W → Calls Tryd.prog 22 #[.pointer (some ⟨g, 0, none⟩)] W fun e w' => e = .returned (.int .u8 (t[0].toNat : Int)) ∧ Mid w g b cap s (k + 1) false (k + 1) false 0 nn w') := fun W hW => by
    have h8 := eight_ok hW.rd HK.out
    rw [← Nat.add_zero k, ← HV.out, Nat.add_zero] at h8
    exact h8.mono fun _ _ ⟨he, hr, ho⟩ => ⟨he, hW.next hr ho⟩
  go_region_with (go_at_call 22; ((with_reducible refine (C8.out _ ?_).mono ?_); (first | exact HM.out | exact HM.out.drew); rintro e wc ⟨rfl, hM⟩; have MC := Lib.hid hM; have d0 := hM.c0; have d1 := hM.c1; have d2 := hM.c2; have x0 := hM.x0; have x1 := hM.x1; have t0 := hM.t0; have t1 := hM.t1; have t2 := hM.t2; have g0 := hM.f 0; have g1 := hM.f 1; have g2 := hM.f 2; clear hM))
  all_goals
    go_wp2
    refine bodyPost_ret (v := .tuple #[.agg #[.string s, .int .i64 ((k + 1 : Nat) : Int), .bool false], .bool true]) (by simp [results, Tryd.results11, go_sem, t0, t1, t2]) rfl ⟨rfl, ?_⟩
    first | exact MC.out.done _ _ _ | exact MC.out.drew.done _ _ _

set_option maxHeartbeats 4000000 in
set_option maxRecDepth 100000 in
theorem does_sixteen_ok (h : Rd w g b cap s k false) (nn : Int) (hk : k + 2 ≤ s.size) :
    Calls Tryd.prog 11 #[.pointer (some ⟨g, 0, none⟩), refV s k false, .agg #[.int .i64 1, .int .i64 nn]] w fun e w' => e = .returned (.tuple #[refV s (k + 2) false, .bool true]) ∧ Rd w' g b cap s (k + 2) false ∧ w.grownBy w' (some g) := by
  have H := Lib.hid h
  have hz := piece_size s k 2 hk
  have hp : 0 < (s.extract k (k + 2)).size := by omega
  have hp1 : 1 < (s.extract k (k + 2)).size := by omega
  have HV := Lib.hid (piece_at s k 2 0 hk hp)
  have HV1 := Lib.hid (piece_at s k 2 1 hk hp1)
  have hne := empty_not hp
  have HT := fun W => Lib.hid (rtake_yes (s := s) (k := k) 2 W hk h.small.1 (by omega))
  have HK := Lib.hid hk
  generalize s.extract k (k + 2) = t at *
  have HZ := Lib.hid hz
  have u0 := UInt8.toNat_lt t[0]
  have u1 := UInt8.toNat_lt t[1]
  have hp2 : (1 : Int) < (t.size : Int) := by omega
  have hd0 : IntKind.u16.wrap (t[0].toNat : Int) = (t[0].toNat : Int) := by rw [IntKind.wrap_u16]; omega
  have hd3 : IntKind.u16.wrap (t[1].toNat : Int) = (t[1].toNat : Int) := by rw [IntKind.wrap_u16]; omega
  have hd1 : IntKind.u16.wrap ((t[0].toNat : Int) * 256) = (t[0].toNat : Int) * 256 := by rw [IntKind.wrap_u16]; omega
  have hd2 : IntKind.u16.wrap ((t[0].toNat : Int) * 256 + (t[1].toNat : Int)) = (t[0].toNat : Int) * 256 + (t[1].toNat : Int) := by rw [IntKind.wrap_u16]; omega
  clear h hz hk
  unfold refV at HT ⊢
  have he := empty_lit
  go_enter Tryd.func11, Tryd.ntmps11
  go_wp2_with fail
  refine (HT _).out.mono ?_
  rintro e w1 ⟨rfl, hB⟩
  have hM := Mid.start H.out _ _ _ _ hB
  have c0 := hM.c0
  have c1 := hM.c1
  have c2 := hM.c2
  have f0 : w1.frozen? ⟨w.heap.size, 0, none⟩ = false := by simp [World.frozen?, hM.m]
  have f1 : w1.frozen? ⟨w.heap.size, 1, none⟩ = false := by simp [World.frozen?, hM.m]
  have f2 : w1.frozen? ⟨w.heap.size, 2, none⟩ = false := by simp [World.frozen?, hM.m]
  have HM : Hid (Mid w g b cap s k false (k + 2) false 1 nn (((w1.setCell ⟨w.heap.size, 0, none⟩ (.string s)).setCell ⟨w.heap.size, 1, none⟩ (.int .i64 ((k : Int) + 2))).setCell ⟨w.heap.size, 2, none⟩ (.bool false))) := hM.laid (k + 2) false
  clear hB HT hM
  go_wp2_with fail
  go_quiet (fail)
  go_wp2_with fail
  clear c0 c1 c2 f0 f1 f2
  have d0 := HM.out.c0
  have d1 := HM.out.c1
  have d2 := HM.out.c2
  have x0 := HM.out.x0
  have x1 := HM.out.x1
  have t0 := HM.out.t0
  have t1 := HM.out.t1
  have t2 := HM.out.t2
  have g0 := HM.out.f 0
  have g1 := HM.out.f 1
  have g2 := HM.out.f 2
  generalize ((w1.setCell ⟨w.heap.size, 0, none⟩ (.string s)).setCell ⟨w.heap.size, 1, none⟩ (.int .i64 ((k : Int) + 2))).setCell ⟨w.heap.size, 2, none⟩ (.bool false) = w2 at *
  have C8 : Hid (∀ W, Mid w g b cap s k false (k + 2) false 1 nn W → Calls Tryd.prog 21 #[.pointer (some ⟨g, 0, none⟩)] W fun e w' => e = .returned (.int .u16 ((t[0].toNat : Int) * 256 + (t[1].toNat : Int))) ∧ Mid w g b cap s (k + 2) false (k + 2) false 1 nn w') := fun W hW => by
    have h8 := sixteen_ok hW.rd HK.out
    have v0 := HV.out
    have v1 := HV1.out
    rw [Nat.add_zero] at v0
    rw [← v0, ← v1] at h8
    exact h8.mono fun _ _ ⟨he, hr, ho⟩ => ⟨he, hW.next hr ho⟩
  have HMq : Hid (Mid w g b cap s k false (k + 2) false 1 nn (w2.drewN nq)) := HM.out.drewN nq
  go_region_with (go_at_call 21; ((with_reducible refine (C8.out _ ?_).mono ?_); (first | exact HMq.out | exact HMq.out.drew); rintro e wc ⟨rfl, hM⟩; have MC := Lib.hid hM; have d0 := hM.c0; have d1 := hM.c1; have d2 := hM.c2; have x0 := hM.x0; have x1 := hM.x1; have t0 := hM.t0; have t1 := hM.t1; have t2 := hM.t2; have g0 := hM.f 0; have g1 := hM.f 1; have g2 := hM.f 2; clear hM))
  all_goals
    go_wp2
    refine bodyPost_ret (v := .tuple #[.agg #[.string s, .int .i64 ((k + 2 : Nat) : Int), .bool false], .bool true]) (by simp [results, Tryd.results11, go_sem, t0, t1, t2]) rfl ⟨rfl, ?_⟩
    first | exact MC.out.done _ _ _ | exact MC.out.drew.done _ _ _

set_option maxHeartbeats 4000000 in
set_option maxRecDepth 100000 in
theorem does_text (h : Rd w g b cap s k bad) (nn : Int) (k2 : Nat) (bad2 : Bool) (t : ByteArray) (e1 : nextAt s k bad nn = k2) (e2 : lacks s k bad nn = bad2) (e3 : readS s k bad nn = t) :
    Calls Tryd.prog 11 #[.pointer (some ⟨g, 0, none⟩), refV s k bad, .agg #[.int .i64 2, .int .i64 nn]] w fun e w' => e = .returned (.tuple #[refV s k2 bad2, .bool true]) ∧ Rd w' g b cap s k2 bad2 ∧ w.grownBy w' (some g) := by
  have H := Lib.hid h
  have HT := fun W => Lib.hid (rtake_any (s := s) (k := k) nn bad W h.le h.small.1)
  rw [e1, e2, e3] at HT
  have E1 := Lib.hid e1
  have E2 := Lib.hid e2
  have E3 := Lib.hid e3
  clear h e1 e2 e3
  unfold refV at HT ⊢
  have he := empty_lit
  go_enter Tryd.func11, Tryd.ntmps11
  go_wp2_with fail
  refine (HT _).out.mono ?_
  rintro e w1 ⟨rfl, hB⟩
  have hM := Mid.start H.out _ _ _ _ hB
  have c0 := hM.c0
  have c1 := hM.c1
  have c2 := hM.c2
  have f0 : w1.frozen? ⟨w.heap.size, 0, none⟩ = false := by simp [World.frozen?, hM.m]
  have f1 : w1.frozen? ⟨w.heap.size, 1, none⟩ = false := by simp [World.frozen?, hM.m]
  have f2 : w1.frozen? ⟨w.heap.size, 2, none⟩ = false := by simp [World.frozen?, hM.m]
  have HM : Hid (Mid w g b cap s k bad (k2) bad2 2 nn (((w1.setCell ⟨w.heap.size, 0, none⟩ (.string s)).setCell ⟨w.heap.size, 1, none⟩ (.int .i64 ((k2 : Int)))).setCell ⟨w.heap.size, 2, none⟩ (.bool bad2))) := hM.laid (k2) bad2
  clear hB HT hM
  go_wp2_with fail
  clear c0 c1 c2 f0 f1 f2
  have d0 := HM.out.c0
  have d1 := HM.out.c1
  have d2 := HM.out.c2
  have x0 := HM.out.x0
  have x1 := HM.out.x1
  have t0 := HM.out.t0
  have t1 := HM.out.t1
  have t2 := HM.out.t2
  have g0 := HM.out.f 0
  have g1 := HM.out.f 1
  have g2 := HM.out.f 2
  generalize ((w1.setCell ⟨w.heap.size, 0, none⟩ (.string s)).setCell ⟨w.heap.size, 1, none⟩ (.int .i64 ((k2 : Int)))).setCell ⟨w.heap.size, 2, none⟩ (.bool bad2) = w2 at *
  have C8 : Hid (∀ W, Mid w g b cap s k bad k2 bad2 2 nn W → Calls Tryd.prog 18 #[.pointer (some ⟨g, 0, none⟩), .int .i64 nn] W fun e w' => e = .returned (.string t) ∧ Mid w g b cap s k2 bad2 k2 bad2 2 nn w') := fun W hW => by
    have h8 := text_any hW.rd nn
    rw [E1.out, E2.out, E3.out] at h8
    exact h8.mono fun _ _ ⟨he, hr, ho⟩ => ⟨he, hW.next hr ho⟩
  go_region_with (go_at_call 18; ((with_reducible refine (C8.out _ ?_).mono ?_); (first | exact HM.out | exact HM.out.drew); rintro e wc ⟨rfl, hM⟩; have MC := Lib.hid hM; have d0 := hM.c0; have d1 := hM.c1; have d2 := hM.c2; have x0 := hM.x0; have x1 := hM.x1; have t0 := hM.t0; have t1 := hM.t1; have t2 := hM.t2; have g0 := hM.f 0; have g1 := hM.f 1; have g2 := hM.f 2; clear hM))
  all_goals
    go_wp2
    refine bodyPost_ret (v := .tuple #[.agg #[.string s, .int .i64 ((k2 : Nat) : Int), .bool bad2], .bool true]) (by simp [results, Tryd.results11, go_sem, t0, t1, t2]) rfl ⟨rfl, ?_⟩
    first | exact MC.out.done _ _ _ | exact MC.out.drew.done _ _ _

end
end Go.Proofs.YtamcmkeoiomeiaaDoor
