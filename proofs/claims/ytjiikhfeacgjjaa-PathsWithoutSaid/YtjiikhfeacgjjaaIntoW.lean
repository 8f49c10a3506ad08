/-
  paths.Into, Outof and Apart.
-/
import Derived.Test.YtjiikhfeacgjjaaRch
namespace Go.Proofs.Ytjiikhfeacgjjaa
open Go.RowKit

theorem enters30 : Enters 30 := enters_of Try.func30 (by kernel_rfl) rfl
theorem enters31 : Enters 31 := enters_of Try.func31 (by kernel_rfl) rfl

set_option maxHeartbeats 1000000 in
theorem closure30 (bl g n a b : Nat) (R : Nat → Nat → Bool) (W : World) (hl : W.cell? ⟨bl, 0, none⟩ = some (.slice (some ⟨g, 0, none⟩) n n)) (hT : Tab g n R W) (ha : a < n) (hb : b < n) :
    Calls Try.prog 30 (#[.int .i64 a, .int .i64 b] ++ #[.pointer (some ⟨bl, 0, none⟩)]) W fun e w' => e = .returned (.bool (R b a)) ∧ Below W.heap.size W w' := by
  have c0 := hT.out.cell hb
  have c1 := (hT.rows b hb).cell ha
  have i0 : (0 : Int) ≤ (a : Int) := Int.natCast_nonneg _
  have i1 : (a : Int) < (n : Int) := by omega
  have i2 : (0 : Int) ≤ (b : Int) := Int.natCast_nonneg _
  have i3 : (b : Int) < (n : Int) := by omega
  obtain ⟨q, hq⟩ : ∃ q, q = R b a := ⟨_, rfl⟩
  rw [← hq] at c1 ⊢
  clear hT hq
  go_enter Try.func30, Try.ntmps30
  go_wp2_with fail
  go_ret
  exact ⟨rfl, Below.refl _ _⟩
set_option maxHeartbeats 1000000 in
theorem closure31 (bl g n a b : Nat) (R : Nat → Nat → Bool) (W : World) (hl : W.cell? ⟨bl, 0, none⟩ = some (.slice (some ⟨g, 0, none⟩) n n)) (hT : Tab g n R W) (ha : a < n) (hb : b < n) :
    Calls Try.prog 31 (#[.int .i64 a, .int .i64 b] ++ #[.pointer (some ⟨bl, 0, none⟩)]) W fun e w' => e = .returned (.bool (R a b)) ∧ Below W.heap.size W w' := by
  have c0 := hT.out.cell ha
  have c1 := (hT.rows a ha).cell hb
  have i0 : (0 : Int) ≤ (a : Int) := Int.natCast_nonneg _
  have i1 : (a : Int) < (n : Int) := by omega
  have i2 : (0 : Int) ≤ (b : Int) := Int.natCast_nonneg _
  have i3 : (b : Int) < (n : Int) := by omega
  obtain ⟨q, hq⟩ : ∃ q, q = R a b := ⟨_, rfl⟩
  rw [← hq] at c1 ⊢
  clear hT hq
  go_enter Try.func31, Try.ntmps31
  go_wp2_with fail
  go_ret
  exact ⟨rfl, Below.refl _ _⟩

/-- A list of Booleans, and no error. -/
def BoolsP (N : Nat) (f : Nat → Bool) (w : World) (e : Ending) (w' : World) : Prop := ∃ A c, e = .returned (.tuple #[.slice A N c, .int .i64 0]) ∧ Bools w' A N f ∧ Below w.heap.size w w'

theorem isB_nat {n t : Nat} (h : t < n) : isB n (t : Int) = true := decide_eq_true (by omega)
theorem isB_no {n : Nat} {z : Int} (h : ¬ (0 ≤ z ∧ z < n)) : isB n z = false := decide_eq_false h

set_option maxHeartbeats 8000000 in
set_option maxRecDepth 100000 in
theorem into_yes (P : PlanA) (L : PlanL) (t : Nat) (w : World) (hP : PlanAt w P L) (hw : WfPlan P) (hl : P.2.2.1.length ≤ 140737488355328) (hl3 : P.2.2.2.1.length ≤ 140737488355328) (ht : t < P.2.2.1.length) :
    Calls Try.prog 12 #[planV P L, .int .i64 t] w fun e w' => BoolsP P.2.2.1.length (fun i => pathB P.2.2.1.length P.2.2.2.1 i t) w e w' := by
  have HI := Lib.hid (fun W => isPart_any P L t W hl)
  rw [isB_nat ht] at HI
  have HL := Lib.hid (fun W hP => links_any P L W hP hw hl hl3)
  have HR := Lib.hid (fun K cap R S W hK hS h0 hlk => reached_any P L t K cap R S W hl ht hK hS h0 hlk)
  have HP := Lib.hid hP
  have hc := hw.2.2.2.1
  obtain ⟨fr, cs, ps, hs, rs⟩ := P
  obtain ⟨A1, c1, A2, c2, A3, c3, A4, c4⟩ := L
  have HPB := Lib.hid (PBn.new w fr A1 cs.length c1 A2 ps.length c2 A3 hs.length c3 A4 rs.length c4)
  have HB0 : Hid (Below w.heap.size w (w.alloc (.cells #[.int .u16 fr, .slice A1 cs.length c1, .slice A2 ps.length c2, .slice A3 hs.length c3, .slice A4 rs.length c4] 28))) := (Below.refl _ _).alloc (Nat.le_refl _) _
  simp only [planV] at *
  have HC := Lib.hid hc
  clear hP hw hl hl3 hc
  go_enter Try.func12, Try.ntmps12
  go_wp2_with fail
  refine (HI.out _).mono ?_
  rintro e w1 ⟨rfl, hB⟩
  obtain ⟨k0, k1, k2, k3, k4⟩ := HPB.out.keep hB
  have HPB1 := Lib.hid (HPB.out.keep hB)
  have HB1 := Lib.hid (below_two HB0.out hB)
  clear hB
  go_wp2_with fail
  refine (HL.out _ (HP.out.keep HB1.out)).mono ?_
  rintro e w2 ⟨g, rfl, hg, hT, hB⟩
  have hT2 := hT.keep ((Below.refl _ _).alloc (Nat.le_refl _) (.cells #[.slice (some ⟨g, 0, none⟩) (min ps.length 256) (min ps.length 256)] 62))
  have HPB2 := Lib.hid (HPB1.out.keep hB)
  have HB2 := Lib.hid (below_two HB1.out hB)
  have hba : Below w2.heap.size w2 (w2.alloc (.cells #[.slice (some ⟨g, 0, none⟩) (min ps.length 256) (min ps.length 256)] 62)) := (Below.refl _ _).alloc (Nat.le_refl _) _
  have hbl : (w2.alloc (.cells #[.slice (some ⟨g, 0, none⟩) (min ps.length 256) (min ps.length 256)] 62)).cell? ⟨w2.heap.size, 0, none⟩ = some (.slice (some ⟨g, 0, none⟩) (min ps.length 256) (min ps.length 256)) := by rw [World.cell?_alloc_at _ _ _ _ rfl]; rfl
  have HBA := Lib.hid hba
  clear k0 k1 k2 k3 k4 hB hT
  obtain ⟨k0, k1, k2, k3, k4⟩ := HPB2.out.keep hba
  obtain ⟨j0, j1, j2, j3, j4⟩ := HPB2.out
  have hrr := HR.out 30 #[.pointer (some ⟨w2.heap.size, 0, none⟩)] (fun a b => lnkB ps.length hs b a) (fun i => Path ps.length hs i t) (w2.alloc (.cells #[.slice (some ⟨g, 0, none⟩) (min ps.length 256) (min ps.length 256)] 62)) enters30
    (fun a b hab hS => .step hab hS) (.refl _)
    (fun W1 hB1 a b ha hb => closure30 w2.heap.size g _ a b (lnkB ps.length hs) W1 (kept hbl hB1) (hT2.keep hB1) ha hb)
  have HRR := Lib.hid hrr
  clear hg hT2 hba hbl hrr
  go_wp2_with fail
  refine HRR.out.mono ?_
  rintro e w3 ⟨g3, f, rfl, h1, h2, h3, h4, h5⟩
  have HF : Hid (BoolsP ps.length (fun i => pathB ps.length hs i t) w (.returned (.tuple #[.slice (some ⟨g3, 0, none⟩) ps.length ps.length, .int .i64 0])) w3) := ⟨_, _, rfl, h1.congr fun i _ => into_of h3 h4 (fun a b hab hf => by
    obtain ⟨⟨ha, ha'⟩, hb, hb'⟩ := lnkB_lt hab HC.out
    exact h5 b (by omega) hf a (by omega) hab) i, below_two HB2.out (below_two HBA.out h2)⟩
  clear h1 h2 h3 h4 h5 k0 k1 k2 k3 k4 j0 j1 j2 j3 j4
  go_wp2_with fail
  go_ret2
  exact HF.out

set_option maxHeartbeats 8000000 in
set_option maxRecDepth 100000 in
theorem out_yes (P : PlanA) (L : PlanL) (t : Nat) (w : World) (hP : PlanAt w P L) (hw : WfPlan P) (hl : P.2.2.1.length ≤ 140737488355328) (hl3 : P.2.2.2.1.length ≤ 140737488355328) (ht : t < P.2.2.1.length) :
    Calls Try.prog 15 #[planV P L, .int .i64 t] w fun e w' => BoolsP P.2.2.1.length (fun i => pathB P.2.2.1.length P.2.2.2.1 t i) w e w' := by
  have HI := Lib.hid (fun W => isPart_any P L t W hl)
  rw [isB_nat ht] at HI
  have HL := Lib.hid (fun W hP => links_any P L W hP hw hl hl3)
  have HR := Lib.hid (fun K cap R S W hK hS h0 hlk => reached_any P L t K cap R S W hl ht hK hS h0 hlk)
  have HP := Lib.hid hP
  have hc := hw.2.2.2.1
  obtain ⟨fr, cs, ps, hs, rs⟩ := P
  obtain ⟨A1, c1, A2, c2, A3, c3, A4, c4⟩ := L
  have HPB := Lib.hid (PBn.new w fr A1 cs.length c1 A2 ps.length c2 A3 hs.length c3 A4 rs.length c4)
  have HB0 : Hid (Below w.heap.size w (w.alloc (.cells #[.int .u16 fr, .slice A1 cs.length c1, .slice A2 ps.length c2, .slice A3 hs.length c3, .slice A4 rs.length c4] 28))) := (Below.refl _ _).alloc (Nat.le_refl _) _
  simp only [planV] at *
  have HC := Lib.hid hc
  clear hP hw hl hl3 hc
  go_enter Try.func15, Try.ntmps15
  go_wp2_with fail
  refine (HI.out _).mono ?_
  rintro e w1 ⟨rfl, hB⟩
  obtain ⟨k0, k1, k2, k3, k4⟩ := HPB.out.keep hB
  have HPB1 := Lib.hid (HPB.out.keep hB)
  have HB1 := Lib.hid (below_two HB0.out hB)
  clear hB
  go_wp2_with fail
  refine (HL.out _ (HP.out.keep HB1.out)).mono ?_
  rintro e w2 ⟨g, rfl, hg, hT, hB⟩
  have hT2 := hT.keep ((Below.refl _ _).alloc (Nat.le_refl _) (.cells #[.slice (some ⟨g, 0, none⟩) (min ps.length 256) (min ps.length 256)] 62))
  have HPB2 := Lib.hid (HPB1.out.keep hB)
  have HB2 := Lib.hid (below_two HB1.out hB)
  have hba : Below w2.heap.size w2 (w2.alloc (.cells #[.slice (some ⟨g, 0, none⟩) (min ps.length 256) (min ps.length 256)] 62)) := (Below.refl _ _).alloc (Nat.le_refl _) _
  have hbl : (w2.alloc (.cells #[.slice (some ⟨g, 0, none⟩) (min ps.length 256) (min ps.length 256)] 62)).cell? ⟨w2.heap.size, 0, none⟩ = some (.slice (some ⟨g, 0, none⟩) (min ps.length 256) (min ps.length 256)) := by rw [World.cell?_alloc_at _ _ _ _ rfl]; rfl
  have HBA := Lib.hid hba
  clear k0 k1 k2 k3 k4 hB hT
  obtain ⟨k0, k1, k2, k3, k4⟩ := HPB2.out.keep hba
  obtain ⟨j0, j1, j2, j3, j4⟩ := HPB2.out
  have hrr := HR.out 31 #[.pointer (some ⟨w2.heap.size, 0, none⟩)] (fun a b => lnkB ps.length hs a b) (fun i => Path ps.length hs t i) (w2.alloc (.cells #[.slice (some ⟨g, 0, none⟩) (min ps.length 256) (min ps.length 256)] 62)) enters31
    (fun a b hab hS => hS.trans (.one hab)) (.refl _)
    (fun W1 hB1 a b ha hb => closure31 w2.heap.size g _ a b (lnkB ps.length hs) W1 (kept hbl hB1) (hT2.keep hB1) ha hb)
  have HRR := Lib.hid hrr
  clear hg hT2 hba hbl hrr
  go_wp2_with fail
  refine HRR.out.mono ?_
  rintro e w3 ⟨g3, f, rfl, h1, h2, h3, h4, h5⟩
  have HF : Hid (BoolsP ps.length (fun i => pathB ps.length hs t i) w (.returned (.tuple #[.slice (some ⟨g3, 0, none⟩) ps.length ps.length, .int .i64 0])) w3) := ⟨_, _, rfl, h1.congr fun i _ => out_of h3 h4 (fun a b hab hf => by
    obtain ⟨⟨ha, ha'⟩, hb, hb'⟩ := lnkB_lt hab HC.out
    exact h5 a (by omega) hf b (by omega) hab) i, below_two HB2.out (below_two HBA.out h2)⟩
  clear h1 h2 h3 h4 h5 k0 k1 k2 k3 k4 j0 j1 j2 j3 j4
  go_wp2_with fail
  go_ret2
  exact HF.out

set_option maxHeartbeats 4000000 in
set_option maxRecDepth 100000 in
theorem into_no (P : PlanA) (L : PlanL) (z : Int) (w : World) (hl : P.2.2.1.length ≤ 140737488355328) (hz : ¬ (0 ≤ z ∧ z < P.2.2.1.length)) :
    Calls Try.prog 12 #[planV P L, .int .i64 z] w fun e w' => e = .returned (.tuple #[.slice none 0 0, .int .i64 70]) ∧ Below w.heap.size w w' := by
  have HI := Lib.hid (fun W => isPart_any P L z W hl)
  rw [isB_no hz] at HI
  obtain ⟨fr, cs, ps, hs, rs⟩ := P
  obtain ⟨A1, c1, A2, c2, A3, c3, A4, c4⟩ := L
  have HB0 : Hid (Below w.heap.size w (w.alloc (.cells #[.int .u16 fr, .slice A1 cs.length c1, .slice A2 ps.length c2, .slice A3 hs.length c3, .slice A4 rs.length c4] 28))) := (Below.refl _ _).alloc (Nat.le_refl _) _
  simp only [planV] at *
  clear hz hl
  go_enter Try.func12, Try.ntmps12
  go_wp2_with fail
  refine (HI.out _).mono ?_
  rintro e w1 ⟨rfl, hB⟩
  have HB := Lib.hid hB
  clear hB
  go_wp2_with fail
  go_ret2
  exact ⟨rfl, below_two HB0.out HB.out⟩
set_option maxHeartbeats 4000000 in
set_option maxRecDepth 100000 in
theorem out_no (P : PlanA) (L : PlanL) (z : Int) (w : World) (hl : P.2.2.1.length ≤ 140737488355328) (hz : ¬ (0 ≤ z ∧ z < P.2.2.1.length)) :
    Calls Try.prog 15 #[planV P L, .int .i64 z] w fun e w' => e = .returned (.tuple #[.slice none 0 0, .int .i64 70]) ∧ Below w.heap.size w w' := by
  have HI := Lib.hid (fun W => isPart_any P L z W hl)
  rw [isB_no hz] at HI
  obtain ⟨fr, cs, ps, hs, rs⟩ := P
  obtain ⟨A1, c1, A2, c2, A3, c3, A4, c4⟩ := L
  have HB0 : Hid (Below w.heap.size w (w.alloc (.cells #[.int .u16 fr, .slice A1 cs.length c1, .slice A2 ps.length c2, .slice A3 hs.length c3, .slice A4 rs.length c4] 28))) := (Below.refl _ _).alloc (Nat.le_refl _) _
  simp only [planV] at *
  clear hz hl
  go_enter Try.func15, Try.ntmps15
  go_wp2_with fail
  refine (HI.out _).mono ?_
  rintro e w1 ⟨rfl, hB⟩
  have HB := Lib.hid hB
  clear hB
  go_wp2_with fail
  go_ret2
  exact ⟨rfl, below_two HB0.out HB.out⟩
end Go.Proofs.Ytjiikhfeacgjjaa
