/-
  The chapter's example.
-/
import Derived.Test.YtnmobalgghggnaaDoorSys
namespace Go.Proofs.YtnmobalgghggnaaDoor
open Go.RowKit

/-- A system that was made since a world. -/
def SysR (w0 : World) (n g B C : Nat) (S : Sd) (R : Rv) (f : Nat → Int) (K : Int) (w : World) : Prop :=
  ∃ m c, SysAt w n m S R f c ∧ c ≤ K ∧ m.g = g ∧ m.B = B ∧ m.C = C ∧ Below w0.heap.size w0 w ∧ ∀ k, m.own k → w0.heap.size ≤ k
section
variable {w0 w w' : World} {n g B C : Nat} {S S' : Sd} {R R' : Rv} {f f' : Nat → Int} {K : Int}
theorem SysR.bel (h : SysR w0 n g B C S R f K w) : Below w0.heap.size w0 w := by
  obtain ⟨_, _, _, _, _, _, _, h, _⟩ := h
  exact h
theorem SysR.keep (h : SysR w0 n g B C S R f K w) (hB : Below w.heap.size w w') : SysR w0 n g B C S R f K w' := by
  obtain ⟨m, c, h1, h2, h3, h4, h5, h6, h7⟩ := h
  exact ⟨m, c, h1.keep hB, h2, h3, h4, h5, h6.trans (hB.mono h6.size), h7⟩
theorem SysR.go {m : Blk} {c : Int} (h : StepA n m S' R' f' c w w') (h2 : c ≤ K) (h3 : m.g = g) (h4 : m.B = B) (h5 : m.C = C) (h6 : Below w0.heap.size w0 w) (h7 : ∀ k, m.own k → w0.heap.size ≤ k) : SysR w0 n g B C S' R' f' (K + 1) w' := by
  obtain ⟨m', c', h8, _, h9, h10, h11, h12, h13, h14⟩ := h
  exact ⟨m', c', h8, by omega, h10.trans h3, h11.trans h4, h12.trans h5, h6.trans (h13.below h7 h6.size), fun k hk => by
    rcases h14 k hk with e | e
    · exact h7 k e
    · have := h6.size; omega⟩
theorem run_s (h : SysR w0 n g B C S R f K w) (hK : K ≤ 1000000) : Calls Tryd.prog 19 #[.pointer (some ⟨B, 0, none⟩), .pointer (some ⟨g, 0, none⟩)] w fun e w' => e = .returned (.bool (decide (5 ≤ (S.step n f).ph))) ∧ SysR w0 n g B C (S.step n f) R (S.word n f) (K + 1) w' := by
  obtain ⟨m, c, h1, h2, h3, h4, h5, h6, h7⟩ := h
  subst h3 h4 h5
  exact (sys_s h1 (by omega)).mono fun e w' ⟨he, ha⟩ => ⟨he, SysR.go ha h2 rfl rfl rfl h6 h7⟩
theorem run_r (h : SysR w0 n g B C S R f K w) (hK : K ≤ 1000000) : Calls Tryd.prog 20 #[.pointer (some ⟨C, 0, none⟩), .pointer (some ⟨g, 0, none⟩)] w fun e w' => e = .returned (.bool (decide (5 ≤ (R.step n f).ph))) ∧ SysR w0 n g B C S (R.step n f) (R.word n f) (K + 1) w' := by
  obtain ⟨m, c, h1, h2, h3, h4, h5, h6, h7⟩ := h
  subst h3 h4 h5
  exact (sys_r h1 (by omega)).mono fun e w' ⟨he, ha⟩ => ⟨he, SysR.go ha h2 rfl rfl rfl h6 h7⟩
theorem SysR.SW (h : SysR w0 n g B C S R f K w) : S.Wf := by obtain ⟨_, _, h, _⟩ := h; exact h.SW
theorem SysR.RW (h : SysR w0 n g B C S R f K w) : R.Wf := by obtain ⟨_, _, h, _⟩ := h; exact h.RW
theorem run_sent (h : SysR w0 n g B C S R f K w) : Calls Tryd.prog 14 #[.pointer (some ⟨B, 0, none⟩)] w fun e w' => TellP 4 (S.sent.map Value.bool) w e w' := by
  obtain ⟨m, c, h1, h2, h3, h4, h5, h6, h7⟩ := h
  subst h3 h4 h5
  exact sent_any _ _ _ _ _ _ h1.T (by have := h1.SW.k; have := h1.SW.few; omega)
theorem run_got (h : SysR w0 n g B C S R f K w) : Calls Tryd.prog 15 #[.pointer (some ⟨C, 0, none⟩)] w fun e w' => TellP 9 (R.got.map Value.string) w e w' := by
  obtain ⟨m, c, h1, h2, h3, h4, h5, h6, h7⟩ := h
  subst h3 h4 h5
  exact got_any _ _ _ _ _ h1.U (by have := h1.RW.k; have := h1.RW.few; omega)
theorem run_words (h : SysR w0 n g B C S R f K w) : Calls Tryd.prog 22 #[.pointer (some ⟨g, 0, none⟩)] w fun e w' => ∃ d, e = .returned (.slice (some ⟨d, 0, none⟩) n n) ∧ OwnU w' d n f ∧ w.heap.size ≤ d ∧ Below w.heap.size w w' := by
  obtain ⟨m, c, h1, h2, h3, h4, h5, h6, h7⟩ := h
  subst h3 h4 h5
  exact words_any _ _ _ _ _ _ h1.M h1.nn
end
/-- A system seen from a world on: of the blocks that there were then only some may have changed. -/
def SysK (w1 : World) (o : Nat → Prop) (n g B C : Nat) (S : Sd) (R : Rv) (f : Nat → Int) (K : Int) (w : World) : Prop :=
  ∃ m c, SysAt w n m S R f c ∧ c ≤ K ∧ m.g = g ∧ m.B = B ∧ m.C = C ∧ Chg o w1 w ∧ ∀ k, m.own k → o k ∨ w1.heap.size ≤ k
section
variable {w0 w1 w w' : World} {o : Nat → Prop} {n g B C : Nat} {S S' : Sd} {R R' : Rv} {f f' : Nat → Int} {K : Int}
theorem SysR.seen (h : SysR w0 n g B C S R f K w) : ∃ o, SysK w o n g B C S R f K w ∧ ∀ k, o k → w0.heap.size ≤ k ∧ k < w.heap.size := by
  obtain ⟨m, c, h1, h2, h3, h4, h5, _, h7⟩ := h
  exact ⟨m.own, ⟨m, c, h1, h2, h3, h4, h5, Chg.refl _, fun k hk => .inl hk⟩, fun k hk => ⟨h7 k hk, h1.lt k hk⟩⟩
theorem SysK.back (h : SysK w1 o n g B C S R f K w) (hB : Below w0.heap.size w0 w1) (ho : ∀ k, o k → w0.heap.size ≤ k) : SysR w0 n g B C S R f K w := by
  obtain ⟨m, c, h1, h2, h3, h4, h5, h6, h7⟩ := h
  exact ⟨m, c, h1, h2, h3, h4, h5, hB.trans (h6.below ho hB.size), fun k hk => by
    rcases h7 k hk with e | e
    · exact ho k e
    · have := hB.size; omega⟩
theorem SysK.chg (h : SysK w1 o n g B C S R f K w) : Chg o w1 w := by
  obtain ⟨_, _, _, _, _, _, _, h, _⟩ := h
  exact h
theorem SysK.keep (h : SysK w1 o n g B C S R f K w) (hB : Below w.heap.size w w') : SysK w1 o n g B C S R f K w' := by
  obtain ⟨m, c, h1, h2, h3, h4, h5, h6, h7⟩ := h
  exact ⟨m, c, h1.keep hB, h2, h3, h4, h5, h6.trans (Chg.of_below hB), h7⟩
/-- The same from a later world on: what was made between is not the system's. -/
theorem SysK.later (h : SysK w o n g B C S R f K w) (hB : Below w.heap.size w w') : SysK w' o n g B C S R f K w' := by
  obtain ⟨m, c, h1, h2, h3, h4, h5, _, h7⟩ := h
  refine ⟨m, c, h1.keep hB, h2, h3, h4, h5, Chg.refl _, fun k hk => ?_⟩
  rcases h7 k hk with e | e
  · exact .inl e
  · have := h1.lt k hk; omega
theorem SysK.go {m : Blk} {c : Int} (h : StepA n m S' R' f' c w w') (h2 : c ≤ K) (h3 : m.g = g) (h4 : m.B = B) (h5 : m.C = C) (h6 : Chg o w1 w) (h7 : ∀ k, m.own k → o k ∨ w1.heap.size ≤ k) : SysK w1 o n g B C S' R' f' (K + 1) w' := by
  obtain ⟨m', c', h8, _, h9, h10, h11, h12, h13, h14⟩ := h
  refine ⟨m', c', h8, by omega, h10.trans h3, h11.trans h4, h12.trans h5, ?_, fun k hk => ?_⟩
  · refine ⟨h13.os.trans h6.os, h13.tape.trans h6.tape, h13.output.trans h6.output, Nat.le_trans h6.size h13.size, fun k hk hn => ?_⟩
    rw [h13.block k (Nat.lt_of_lt_of_le hk h6.size) (fun hm => by
      rcases h7 k hm with e | e
      · exact hn e
      · omega)]
    exact h6.block k hk hn
  · rcases h14 k hk with e | e
    · exact h7 k e
    · have := h6.size; exact .inr (by omega)
theorem seen_s (h : SysK w1 o n g B C S R f K w) (hK : K ≤ 1000000) : Calls Tryd.prog 19 #[.pointer (some ⟨B, 0, none⟩), .pointer (some ⟨g, 0, none⟩)] w fun e w' => e = .returned (.bool (decide (5 ≤ (S.step n f).ph))) ∧ SysK w1 o n g B C (S.step n f) R (S.word n f) (K + 1) w' := by
  obtain ⟨m, c, h1, h2, h3, h4, h5, h6, h7⟩ := h
  subst h3 h4 h5
  exact (sys_s h1 (by omega)).mono fun e w' ⟨he, ha⟩ => ⟨he, SysK.go ha h2 rfl rfl rfl h6 h7⟩
theorem seen_r (h : SysK w1 o n g B C S R f K w) (hK : K ≤ 1000000) : Calls Tryd.prog 20 #[.pointer (some ⟨C, 0, none⟩), .pointer (some ⟨g, 0, none⟩)] w fun e w' => e = .returned (.bool (decide (5 ≤ (R.step n f).ph))) ∧ SysK w1 o n g B C S (R.step n f) (R.word n f) (K + 1) w' := by
  obtain ⟨m, c, h1, h2, h3, h4, h5, h6, h7⟩ := h
  subst h3 h4 h5
  exact (sys_r h1 (by omega)).mono fun e w' ⟨he, ha⟩ => ⟨he, SysK.go ha h2 rfl rfl rfl h6 h7⟩
end
theorem new_one (n : Nat) (h1 : 1 ≤ n) (h2 : n ≤ 4096) (x : Int) (hx : x = n) (w : World) :
    Calls Tryd.prog 16 #[.int .i64 x] w fun e w' => ∃ g b, e = .returned (.tuple #[.pointer (some ⟨g, 0, none⟩), .int .i64 0]) ∧ MemAt w' g b n (fun _ => 0) 0 ∧ w.heap.size ≤ g ∧ w.heap.size ≤ b ∧ Below w.heap.size w w' := by
  subst hx; exact new_yes n w h1 h2
theorem six_of {w : World} (h : GOk w) : 6 ≤ w.heap.size := by
  have := (h 0 (by decide)).lt
  exact this
/-- The system of a new memory, a new sender and a new receiver, made one behind the other. -/
theorem sysR_new {w0 w1 w2 w3 w4 : World} {g b B LB C n : Nat} {a : Int} {pl sz t : Nat} {L : List ByteArray} {f : Nat → Int} {c : Int} (hG : GOk w0) (hM : MemAt w1 g b n (fun _ => 0) 0) (hg : w0.heap.size ≤ g ∧ w0.heap.size ≤ b) (hB1 : Below w0.heap.size w0 w1)
    (hT : SenderAt w2 B LB (.slice none 0 0) (sd0 a pl sz L).ph (sd0 a pl sz L)) (hB2 : Below w1.heap.size w1 w2) (hs2 : w1.heap.size ≤ B ∧ w1.heap.size ≤ LB)
    (hU : ReceiverAt w3 C (.slice none 0 0) (rv0 a pl sz t).ph (rv0 a pl sz t)) (hB3 : Below w2.heap.size w2 w3) (hs3 : w2.heap.size ≤ C) (hS : (sd0 a pl sz L).Wf) (hR : (rv0 a pl sz t).Wf) (hn : n ≤ 4096)
    (hM4 : MemAt w4 g b n f c) (hE : Chg (fun k => k = g ∨ k = b) w3 w4) (hf : U32 n f) (hc : 0 ≤ c ∧ c ≤ 1000) :
    SysR w0 n g B C (sd0 a pl sz L) (rv0 a pl sz t) f 1000 w4 := by
  have h6 := six_of hG
  have s1 := hB1.size
  have s2 := hB2.size
  have s3 := hB3.size
  have s4 := hE.size
  have hgl := hM.ltg
  have hbl := hM.row.lt
  have hBl := hT.ltB
  have hLl := hT.lb
  have hCl := hU.ltB
  have hb3 : Below w0.heap.size w0 w3 := (hB1.trans (hB2.mono s1)).trans (hB3.mono (by omega))
  have hb4 : Below w0.heap.size w0 w4 := hb3.trans (hE.below (fun k hk => by omega) (by omega))
  refine ⟨⟨g, b, B, LB, .slice none 0 0, C, .slice none 0 0⟩, c, sys_new hM4 ((hT.keep hB3).chg hE (fun e => by omega) (fun e => by omega) (fun x hx => by cases hx)) (hU.chg hE (fun e => by omega) (fun x hx => by cases hx)) hS hR hf hn (hG.below (by omega) hb4)
    (by omega) (by omega) (by omega) (by omega) (by omega) (by omega) (by omega) (by omega) (by omega) hc.1, hc.2, rfl, rfl, rfl, hb4, fun k hk => ?_⟩
  rcases hk with e | e | e | e | e | e | e
  · have e : k = g := e; omega
  · have e : k = b := e; omega
  · have e : k = B := e; omega
  · have e : k = LB := e; omega
  · cases e
  · have e : k = C := e; omega
  · cases e
/-- The example's run. -/
def exL : List ByteArray := [⟨#[97, 98]⟩, ⟨#[99]⟩]
def exS : Nat → Sd × (Nat → Int)
  | 0 => (sd0 0 2 5 exL, fun _ => 0)
  | k + 1 => ((exS k).1.step 8 (exS k).2, (exS k).1.word 8 (exS k).2)
def exR : Nat → Rv × (Nat → Int)
  | 0 => (rv0 0 2 5 1, (exS 5).2)
  | k + 1 => ((exR k).1.step 8 (exR k).2, (exR k).1.word 8 (exR k).2)
theorem exS_ph0 : decide (5 ≤ ((exS 0).1.step 8 (exS 0).2).ph) = false := by kernel_rfl
theorem exS_ph1 : decide (5 ≤ ((exS 1).1.step 8 (exS 1).2).ph) = false := by kernel_rfl
theorem exS_ph2 : decide (5 ≤ ((exS 2).1.step 8 (exS 2).2).ph) = false := by kernel_rfl
theorem exS_ph3 : decide (5 ≤ ((exS 3).1.step 8 (exS 3).2).ph) = false := by kernel_rfl
theorem exS_ph4 : decide (5 ≤ ((exS 4).1.step 8 (exS 4).2).ph) = false := by kernel_rfl
theorem exR_ph0 : decide (5 ≤ ((exR 0).1.step 8 (exR 0).2).ph) = false := by kernel_rfl
theorem exR_ph1 : decide (5 ≤ ((exR 1).1.step 8 (exR 1).2).ph) = false := by kernel_rfl
theorem exR_ph2 : decide (5 ≤ ((exR 2).1.step 8 (exR 2).2).ph) = false := by kernel_rfl
theorem exR_ph3 : decide (5 ≤ ((exR 3).1.step 8 (exR 3).2).ph) = false := by kernel_rfl
theorem exS_ph (k : Nat) (h : k < 5) : decide (5 ≤ ((exS k).1.step 8 (exS k).2).ph) = false := by
  match k, h with
  | 0, _ => exact exS_ph0
  | 1, _ => exact exS_ph1
  | 2, _ => exact exS_ph2
  | 3, _ => exact exS_ph3
  | 4, _ => exact exS_ph4
theorem exR_ph (k : Nat) (h : k < 4) : decide (5 ≤ ((exR k).1.step 8 (exR k).2).ph) = false := by
  match k, h with
  | 0, _ => exact exR_ph0
  | 1, _ => exact exR_ph1
  | 2, _ => exact exR_ph2
  | 3, _ => exact exR_ph3
theorem exR_end : decide (5 ≤ ((exR 4).1.step 8 (exR 4).2).ph) = true := by kernel_rfl
theorem exS_sent : (exS 5).1.sent = [true] := by kernel_rfl
theorem exR_got : ((exR 4).1.step 8 (exR 4).2).got = [⟨#[97, 98]⟩] := by kernel_rfl
theorem exF0 : (exS 5).2 0 = 0 := by kernel_rfl
theorem exF1 : (exS 5).2 1 = 1 := by kernel_rfl
theorem exF2 : (exS 5).2 2 = 2 := by kernel_rfl
theorem exF3 : (exS 5).2 3 = 1633812480 := by kernel_rfl
theorem exF4 : (exS 5).2 4 = 0 := by kernel_rfl
theorem ex_words : wordsV 2 5 = 8 ∧ wordsE 2 5 = 0 ∧ capP 2 = true := ⟨by kernel_rfl, by kernel_rfl, by kernel_rfl⟩
theorem exS_wf : (sd0 0 2 5 exL).Wf := sd0_wf (by omega) ⟨1, by omega, rfl⟩ (by omega) (by
  intro m hm
  simp only [exL, List.mem_cons, List.not_mem_nil, or_false] at hm
  rcases hm with rfl | rfl <;> decide) (by decide)
theorem exR_wf : (rv0 0 2 5 1).Wf := rv0_wf (by omega) ⟨1, by omega, rfl⟩ (by omega) (by omega)
theorem exL_good : ∀ m ∈ exL, goodM 5 m := by
  intro m hm
  simp only [exL, List.mem_cons, List.not_mem_nil, or_false] at hm
  rcases hm with rfl | rfl <;> (unfold goodM; decide)
theorem ex_strs (w : World) : Strs (w.alloc (.cells #[.string ⟨#[97, 98]⟩, .string ⟨#[99]⟩] 9)).heap.size (w.alloc (.cells #[.string ⟨#[97, 98]⟩, .string ⟨#[99]⟩] 9)) (some ⟨w.heap.size, 0, none⟩) exL := fun i hi => by
  refine ⟨w.heap.size, 0, rfl, by simp, ?_⟩
  have h2 : i < 2 := hi
  rw [Nat.zero_add]
  match i, h2 with
  | 0, _ => exact al_new _ _ _ _ _ rfl rfl
  | 1, _ => exact al_new _ _ _ _ _ rfl rfl
end Go.Proofs.YtnmobalgghggnaaDoor
