/-
  A step of a writer.
-/
import Derived.Test.YtoaaeamogpdcgaaDoorWk
namespace Go.Proofs.YtoaaeamogpdcgaaDoor
open Go.RowKit

/-- At address A stand n words. -/
def Us (w : World) (A : Option Addr) (n : Nat) (f : Nat → Int) : Prop := ∀ i, i < n → ∃ b o, A = some ⟨b, o, none⟩ ∧ w.cell? ⟨b, o + i, none⟩ = some (.int .u32 (f i))
theorem Us.keep {w w' : World} {A : Option Addr} {n : Nat} {f : Nat → Int} (h : Us w A n f) (hb : Below w.heap.size w w') : Us w' A n f := fun i hi => by
  obtain ⟨b, o, e, hc⟩ := h i hi
  exact ⟨b, o, e, kept hc hb⟩
theorem Us.cell {w : World} {b o n : Nat} {f : Nat → Int} (h : Us w (some ⟨b, o, none⟩) n f) {i : Nat} (hi : i < n) : w.cell? ⟨b, o + i, none⟩ = some (.int .u32 (f i)) := by
  obtain ⟨b', o', e, hc⟩ := h i hi
  injection e with e
  injection e with e1 e2
  rw [e1, e2]
  exact hc
theorem Us.head {w : World} {A : Option Addr} {n : Nat} {f : Nat → Int} (h : Us w A n f) {i : Nat} (hi : i < n) : ∃ b o, A = some ⟨b, o, none⟩ := by
  obtain ⟨b, o, e, _⟩ := h i hi
  exact ⟨b, o, e⟩
theorem Us.of_row {w : World} {b n : Nat} {f : Nat → Int} (h : OwnU w b n f) : Us w (some ⟨b, 0, none⟩) n f := fun i hi => ⟨b, 0, rfl, by rw [Nat.zero_add]; exact h.cell hi⟩
theorem Us.congr {w : World} {A : Option Addr} {n : Nat} {f g : Nat → Int} (h : Us w A n f) (e : ∀ i, i < n → f i = g i) : Us w A n g := fun i hi => by
  obtain ⟨b, o, e', hc⟩ := h i hi
  exact ⟨b, o, e', by rw [← e i hi]; exact hc⟩
/-- An address off some blocks. -/
def Off (S : Nat → Prop) (A : Option Addr) : Prop := ∀ b o, A = some ⟨b, o, none⟩ → ¬ S b
theorem Us.chgS {S : Nat → Prop} {w w' : World} {A : Option Addr} {n : Nat} {f : Nat → Int} (h : Us w A n f) (hC : Chg S w w') (hO : Off S A) : Us w' A n f := fun i hi => by
  obtain ⟨b, o, e, hc⟩ := h i hi
  exact ⟨b, o, e, hC.cell hc (hO b o e)⟩
/-- The blocks that a step may change. -/
def ST (g b B : Nat) (k : Nat) : Prop := k = g ∨ k = b ∨ k = B
theorem chg_else {g b B : Nat} {w w' : World} (h : Else g b w w') : Chg (ST g b B) w w' := (Chg.of_else h).mono fun _ hk => hk.elim .inl fun e => .inr (.inl e)
theorem Chg.setB {g b B j : Nat} {w w' : World} (h : Chg (ST g b B) w w') (v : Value) : Chg (ST g b B) w (w'.setCell ⟨B, j, none⟩ v) := h.set (a := ⟨B, j, none⟩) (.inr (.inr rfl)) v
theorem chg_third {g b B : Nat} {w w' : World} (h : Third B w w') : Chg (ST g b B) w w' := h.chg.mono fun _ hk => .inr (.inr hk)
theorem afterS0 (x : Int) : afterS 0 0 0 x = x := rfl
theorem afterS1 (v x : Int) : afterS 1 0 v x = v := rfl
theorem afterS3 (x : Int) : afterS 3 0 1 x = inc x := inc_wrap x
theorem else_drew {g b : Nat} {w w' : World} (h : Else g b w.drew w') : Else g b w w' := ⟨h.os, h.tape, h.output, h.size, h.block⟩
theorem below_drew {w w' : World} (h : Below w.drew.heap.size w.drew w') : Below w.heap.size w w' := ⟨h.os, h.tape, h.output, h.size, h.block⟩
theorem keptd {w w' : World} {a : Addr} {v : Value} (hc : w.cell? a = some v) (h : Below w.heap.size w.drew w') : w'.cell? a = some v := kept (w := w.drew) hc h
theorem MemAt.third {w w' : World} {g b n B : Nat} {f : Nat → Int} {c : Int} (h : MemAt w g b n f c) (hT : Third B w w') (hg : g ≠ B) (hb : b ≠ B) : MemAt w' g b n f c := hT.chg.mem h hg hb

/-- A writer in memory. -/
structure WriterAt (w : World) (B : Nat) (p : Int) (A : Option Addr) (ca : Nat) (s : Wr) : Prop where
  k : WkAt w B p s.k
  c4 : w.cell? ⟨B, 4, none⟩ = some (.slice A (s.L * s.k.n) ca)
  c5 : w.cell? ⟨B, 5, none⟩ = some (.int .i64 s.wr)
  us : Us w A (s.L * s.k.n) s.V
  wl : (s.k.ph < 3 → s.wr < s.L) ∧ s.wr ≤ s.L ∧ s.L * s.k.n ≤ 1099511627776
  off : ∀ b o, A = some ⟨b, o, none⟩ → b ≠ B
theorem WriterAt.same {w w' : World} {B : Nat} {p : Int} {A : Option Addr} {ca : Nat} {s : Wr} (h : WriterAt w B p A ca s) (e : w'.heap[B]? = w.heap[B]?) (hU : Us w' A (s.L * s.k.n) s.V) : WriterAt w' B p A ca s :=
  ⟨h.k.same e, by rw [World.cell?_of_block (w := w) e]; exact h.c4, by rw [World.cell?_of_block (w := w) e]; exact h.c5, hU, h.wl, h.off⟩
theorem WriterAt.keep {w w' : World} {B : Nat} {p : Int} {A : Option Addr} {ca : Nat} {s : Wr} (h : WriterAt w B p A ca s) (hB : Below w.heap.size w w') : WriterAt w' B p A ca s := h.same (hB.block _ h.k.lt) (h.us.keep hB)
theorem WriterAt.chg {S : Nat → Prop} {w w' : World} {B : Nat} {p : Int} {A : Option Addr} {ca : Nat} {s : Wr} (h : WriterAt w B p A ca s) (hC : Chg S w w') (hB : ¬ S B) (hO : Off S A) : WriterAt w' B p A ca s := h.same (hC.block _ h.k.lt hB) (h.us.chgS hC hO)
theorem off_else {g b B : Nat} {A : Option Addr} (h : Off (ST g b B) A) : Off (fun k => k = g ∨ k = b) A := fun x o e hx => h x o e (hx.elim .inl fun e => .inr (.inl e))
theorem WriterAt.else {g b : Nat} {w w' : World} {B : Nat} {p : Int} {A : Option Addr} {ca : Nat} {s : Wr} (h : WriterAt w B p A ca s) (hE : Else g b w w') (hg : g ≠ B) (hb : b ≠ B) (hO : Off (ST g b B) A) : WriterAt w' B p A ca s :=
  h.chg (Chg.of_else hE) (fun e => e.elim (fun e => hg e.symm) fun e => hb e.symm) (off_else hO)
theorem Us.setB {w : World} {B j : Nat} {A : Option Addr} {n : Nat} {f : Nat → Int} (h : Us w A n f) (hO : ∀ b o, A = some ⟨b, o, none⟩ → b ≠ B) (v : Value) : Us (w.setCell ⟨B, j, none⟩ v) A n f := fun i hi => by
  obtain ⟨b, o, e, hc⟩ := h i hi
  exact ⟨b, o, e, by rw [World.cell?_setCell_other _ _ _ _ (fun e' => by injection e' with e1; exact hO b o e e1.symm)]; exact hc⟩
theorem WriterAt.set {w : World} {B : Nat} {p : Int} {A : Option Addr} {ca : Nat} {s : Wr} (h : WriterAt w B p A ca s) (q : Int) : WriterAt (w.setCell ⟨B, 2, none⟩ (.int .i64 q)) B q A ca s :=
  ⟨h.k.set q, by rw [World.cell?_setCell_other _ _ _ _ (by simp)]; exact h.c4, by rw [World.cell?_setCell_other _ _ _ _ (by simp)]; exact h.c5, h.us.setB h.off _, h.wl, h.off⟩
theorem WriterAt.think {w : World} {B : Nat} {p : Int} {A : Option Addr} {ca : Nat} {s : Wr} (h : WriterAt w B p A ca s) (q : Nat) (hq : q ≤ 4 ∧ (q < 3 → s.k.pa < s.k.n ∧ (q ≠ 1 → s.k.pa = 0))) (hw : q < 3 → s.wr < s.L) : WriterAt w B p A ca { s with k := { s.k with ph := q } } :=
  ⟨h.k.think rfl rfl rfl hq, h.c4, h.c5, h.us, ⟨hw, h.wl.2⟩, h.off⟩
theorem Wk.pass_at (k : Wk) : k.pass.at' = k.at' := by unfold Wk.pass; split <;> rfl
theorem Wk.pass_n (k : Wk) : k.pass.n = k.n := by unfold Wk.pass; split <;> rfl
theorem WriterAt.pass {w w' : World} {B : Nat} {p : Int} {A : Option Addr} {ca : Nat} {s : Wr} (h : WriterAt w B p A ca s) (hk : WkAt w' B p s.k.pass) (hT : Third B w w') (hw : s.wr < s.L) : WriterAt w' B p A ca { s with k := s.k.pass } := by
  refine ⟨hk, ?_, by rw [hT.cell _ (by decide)]; exact h.c5, ?_, ?_, h.off⟩
  · show _ = some (Value.slice A (s.L * s.k.pass.n) ca)
    rw [Wk.pass_n, hT.cell _ (by decide)]; exact h.c4
  · show Us w' A (s.L * s.k.pass.n) s.V
    rw [Wk.pass_n]; exact h.us.chgS hT.chg fun b o e => h.off b o e
  · refine ⟨fun _ => hw, h.wl.2.1, ?_⟩
    show s.L * s.k.pass.n ≤ _
    rw [Wk.pass_n]; exact h.wl.2.2
theorem WriterAt.wrote {w : World} {B : Nat} {p : Int} {A : Option Addr} {ca : Nat} {s : Wr} (h : WriterAt w B p A ca s) (hw : s.wr < s.L) (hp : s.k.ph = 2) (q : Nat) (hq : q = if s.wr + 1 = s.L then 3 else 0) : WriterAt (w.setCell ⟨B, 5, none⟩ (.int .i64 ((s.wr : Int) + 1))) B p A ca { s with k := { s.k with ph := q }, wr := s.wr + 1 } := by
  have pr := h.k.pr
  refine ⟨(h.k.far (j := 5) (by omega) _).think rfl rfl rfl ?_, by rw [World.cell?_setCell_other _ _ _ _ (by simp)]; exact h.c4, World.cell?_setCell_same _ _ _ h.c5, h.us.setB h.off _, ?_, h.off⟩
  · show q ≤ 4 ∧ (q < 3 → s.k.pa < s.k.n ∧ (q ≠ 1 → s.k.pa = 0))
    have := pr.2.2 (by omega)
    have h2 := this.2 (by omega)
    subst hq
    split
    · exact ⟨by omega, fun e => absurd e (by omega)⟩
    · exact ⟨by omega, fun _ => ⟨by omega, fun _ => h2⟩⟩
  · have := h.wl
    refine ⟨fun hq3 => ?_, by show s.wr + 1 ≤ s.L; omega, this.2.2⟩
    have hq3 : q < 3 := hq3
    show s.wr + 1 < s.L
    subst hq
    split at hq3 <;> omega
theorem Wr.step_over {m : Nat} {s : Wr} (h : 3 ≤ s.k.ph) : s.step m = s := by unfold Wr.step; rw [if_pos h]
theorem Wr.step_no {m : Nat} {s : Wr} (h : s.k.ph < 3) (hi : ¬ (0 ≤ s.k.wh ∧ s.k.wh < m)) : s.step m = { s with k := s.k.lose } := by unfold Wr.step; rw [if_neg (by omega), inM_ne hi]; rfl
theorem Wr.word_no {m : Nat} {f : Nat → Int} {s : Wr} (hi : ¬ (0 ≤ s.k.wh ∧ s.k.wh < m)) : s.word m f = f := by unfold Wr.word; rw [inM_ne hi]; split <;> rfl
theorem Wr.step0 {m : Nat} {s : Wr} (h : s.k.ph = 0) (hi : 0 ≤ s.k.wh ∧ s.k.wh < m) : s.step m = { s with k := { s.k with ph := 1 } } := by unfold Wr.step; rw [if_neg (by omega), inM_of hi]; simp [h]
theorem Wr.step1 {m : Nat} {s : Wr} (h : s.k.ph = 1) (hi : 0 ≤ s.k.wh ∧ s.k.wh < m) : s.step m = { s with k := s.k.pass } := by unfold Wr.step; rw [if_neg (by omega), inM_of hi]; simp [h]
theorem Wr.step2 {m : Nat} {s : Wr} (h : s.k.ph = 2) (hi : 0 ≤ s.k.wh ∧ s.k.wh < m) : s.step m = { s with k := { s.k with ph := if s.wr + 1 = s.L then 3 else 0 }, wr := s.wr + 1 } := by unfold Wr.step; rw [if_neg (by omega), inM_of hi]; simp [h]
theorem Wr.word1 {m i : Nat} {f : Nat → Int} {s : Wr} (h : s.k.ph = 1) (hi : s.k.wh = i) (hm : i < m) : s.word m f = upd f i (s.V (s.wr * s.k.n + s.k.pa)) := by unfold Wr.word; rw [if_neg (by omega), inM_of (by omega), if_pos rfl, if_pos h, hi]; rfl
theorem Wr.word02 {m i : Nat} {f : Nat → Int} {s : Wr} (h : s.k.ph = 0 ∨ s.k.ph = 2) (hi : s.k.wh = i) (hm : i < m) : s.word m f = upd f i (inc (f i)) := by unfold Wr.word; rw [if_neg (by omega), inM_of (by omega), if_pos rfl, if_neg (by omega), hi]; rfl
theorem wh1 {k : Wk} (h : k.ph = 1) : k.wh = k.at' + 1 + k.pa := by unfold Wk.wh; rw [if_pos h]
theorem wh02 {k : Wk} (h : k.ph = 0 ∨ k.ph = 2) : k.wh = k.at' := by unfold Wk.wh; rw [if_neg (by omega)]
/-- What a use of a writer leaves: the next phase, the words, the writer, the rest. -/
def WriterQ (g b n B : Nat) (f : Nat → Int) (c : Int) (A : Option Addr) (ca : Nat) (s : Wr) (w w' : World) : Prop :=
  (∃ c', c ≤ c' ∧ c' ≤ c + 1 ∧ MemAt w' g b n (s.word n f) c') ∧ WriterAt w' B s.k.ph A ca (s.step n) ∧ Chg (ST g b B) w w'
def WriterP (g b n B : Nat) (f : Nat → Int) (c : Int) (A : Option Addr) (ca : Nat) (s : Wr) (w : World) (e : Ending) (w' : World) : Prop :=
  ∃ pr er : Int, e = .returned (.tuple #[.int .i64 pr, .int .i64 er]) ∧ (if er = 0 then pr else 4) = (s.step n).k.ph ∧ WriterQ g b n B f c A ca s w w'
section
variable (B g b n : Nat) (A : Option Addr) (ca : Nat) (s : Wr) (f : Nat → Int) (c : Int) (w : World)
set_option maxHeartbeats 4000000 in
set_option maxRecDepth 100000 in
theorem write0 (i : Nat) (hT : WriterAt w B s.k.ph A ca s) (hgB : g ≠ B) (hbB : b ≠ B) (hO : Off (ST g b B) A) (hG : GOk w) (hM : MemAt w g b n f c) (hn : n ≤ 4096) (hc : 0 ≤ c ∧ c ≤ 1000000) (hp : s.k.ph = 0) (ha : s.k.at' = i) (hi : i < n) :
    Calls Tryd.prog 32 #[.pointer (some ⟨B, 0, none⟩), .pointer (some ⟨g, 0, none⟩)] w fun e w' => WriterP g b n B f c A ca s w e w' := by
  have HA := Lib.hid (add_yes 1 i g b n f c w hG hM hn hi hc)
  have k0 := hT.k.c0
  have k2 := hT.k.c2
  have pr := Lib.hid hT.k.pr
  have wl := Lib.hid hT.wl
  rw [ha] at k0
  rw [hp] at k2
  have HT := Lib.hid hT
  clear hG hM hc hT
  have HP := Lib.hid hp
  clear hp
  go_enter Tryd.func32, Tryd.ntmps32
  go_wp2_with fail
  with_reducible refine HA.out.mono ?_
  rintro e w1 ⟨rfl, hM1, hE1⟩
  have HT1 := Lib.hid (HT.out.else hE1 hgB hbB hO)
  have HM1 := Lib.hid hM1
  have HE1 := Lib.hid (chg_else (B := B) hE1)
  clear hM1 hE1 k0 k2
  go_wp2_with fail
  go_ret2
  have e0 : s.k.wh = i := by rw [wh02 (.inl HP.out)]; exact ha
  have hpr := pr.out.2.2 (by rw [HP.out]; omega)
  refine ⟨1, 0, rfl, ?_, ⟨c + 1, by omega, Int.le_refl _, ?_⟩, ?_, HE1.out⟩
  · rw [Wr.step0 HP.out (by omega)]; rfl
  · rw [Wr.word02 (.inl HP.out) e0 hi]; have := HM1.out; rw [afterS3] at this; exact this
  · rw [Wr.step0 HP.out (by omega)]
    exact HT1.out.think 1 ⟨by omega, fun _ => ⟨hpr.1, fun e => absurd rfl e⟩⟩ fun _ => wl.out.1 (by rw [HP.out]; omega)
set_option maxHeartbeats 4000000 in
set_option maxRecDepth 100000 in
theorem write0n (hT : WriterAt w B s.k.ph A ca s) (hG : GOk w) (hM : MemAt w g b n f c) (hn : n ≤ 4096) (hp : s.k.ph = 0) (hi : ¬ (0 ≤ s.k.wh ∧ s.k.wh < n)) :
    Calls Tryd.prog 32 #[.pointer (some ⟨B, 0, none⟩), .pointer (some ⟨g, 0, none⟩)] w fun e w' => WriterP g b n B f c A ca s w e w' := by
  have e0 : s.k.wh = s.k.at' := wh02 (.inl hp)
  have HA := Lib.hid (add_no 1 s.k.at' g b n f c w hG hM hn (by rw [← e0]; exact hi))
  have k0 := hT.k.c0
  have k2 := hT.k.c2
  rw [hp] at k2
  have HT := Lib.hid hT
  have HM := Lib.hid hM
  have HI := Lib.hid hi
  clear hG hM hT hi e0
  have HP := Lib.hid hp
  clear hp
  go_enter Tryd.func32, Tryd.ntmps32
  go_wp2_with fail
  with_reducible refine HA.out.mono ?_
  rintro e w1 ⟨rfl, hB1⟩
  have HT1 := Lib.hid (HT.out.keep hB1)
  have HM1 := Lib.hid (HM.out.keep hB1)
  have HE1 := Lib.hid (Chg.of_below (S := ST g b B) hB1)
  clear hB1 k0 k2
  go_wp2_with fail
  go_ret2
  have e1 : s.k.lose = { s.k with ph := 4 } := by unfold Wk.lose; rw [if_neg (by rw [HP.out]; omega)]
  refine ⟨1, 81, rfl, ?_, ⟨c, Int.le_refl _, by omega, ?_⟩, ?_, HE1.out⟩
  · rw [Wr.step_no (by rw [HP.out]; omega) HI.out, e1]; rfl
  · rw [Wr.word_no HI.out]; exact HM1.out
  · rw [Wr.step_no (by rw [HP.out]; omega) HI.out, e1]
    exact HT1.out.think 4 ⟨by omega, fun h => absurd h (by omega)⟩ fun h => absurd h (by omega)
theorem flat_lt {r L n p : Nat} (h : r < L) (hp : p < n) : r * n + p < L * n := by
  have : (r + 1) * n ≤ L * n := Nat.mul_le_mul_right _ h
  rw [Nat.succ_mul] at this
  omega
set_option maxHeartbeats 4000000 in
set_option maxRecDepth 100000 in
theorem write1 (i : Nat) (hT : WriterAt w B s.k.ph A ca s) (hgB : g ≠ B) (hbB : b ≠ B) (hO : Off (ST g b B) A) (hG : GOk w) (hM : MemAt w g b n f c) (hn : n ≤ 4096) (hc : 0 ≤ c ∧ c ≤ 1000000) (hp : s.k.ph = 1) (ha : s.k.at' + 1 + s.k.pa = i) (hi : i < n) :
    Calls Tryd.prog 32 #[.pointer (some ⟨B, 0, none⟩), .pointer (some ⟨g, 0, none⟩)] w fun e w' => WriterP g b n B f c A ca s w e w' := by
  have hpr := hT.k.pr.2.2 (by omega)
  have hlt := flat_lt (hT.wl.1 (by omega)) hpr.1
  obtain ⟨q, hq⟩ : ∃ q : Nat, q = s.wr * s.k.n + s.k.pa := ⟨_, rfl⟩
  rw [← hq] at hlt
  obtain ⟨N, hN⟩ : ∃ N : Nat, N = s.L * s.k.n := ⟨_, rfl⟩
  obtain ⟨x, hx⟩ : ∃ x : Nat, x = s.wr * s.k.n := ⟨_, rfl⟩
  obtain ⟨ab, ao, rfl⟩ := hT.us.head hlt
  have hcell := hT.us.cell hlt
  have hmax := hT.wl.2.2
  have k4 := hT.c4
  rw [← hN] at hlt hmax k4
  rw [← hx] at hq
  have hmul : IntKind.i64.wrap ((s.wr : Int) * s.k.n) = x := by
    have e : (s.wr : Int) * s.k.n = x := by rw [hx]; simp
    rw [e]
    exact IntWalk.i64_in _ (by omega)
  have hadd : IntKind.i64.wrap ((x : Int) + s.k.pa) = q := by
    rw [IntWalk.i64_in _ (by omega)]; omega
  have HA := Lib.hid (fun W (hB : Below w.heap.size w W) => store_yes (s.V q) i g b n f c W (hG.keep hB) (hM.keep hB) hn hi hc)
  have HW := Lib.hid (fun W (hB : Below w.heap.size w W) => word_any B s.k.ph s.k W (hT.k.keep hB))
  have HPA := Lib.hid (fun W (hK : WkAt W B s.k.ph s.k) => pass_any B s.k.ph s.k W hK hpr.1)
  have k1 := hT.k.c1
  have k2 := hT.k.c2
  have k3 := hT.k.c3
  have k5 := hT.c5
  rw [hp] at k2
  have HT := Lib.hid hT
  have hq0 : (0 : Int) ≤ q := by omega
  have hql : (q : Int) < N := by omega
  have HWL := Lib.hid (hT.wl.1 (by omega))
  have HQ := Lib.hid hq
  have HHA := Lib.hid ha
  have HX := Lib.hid hx
  clear hG hM hc hT hlt hpr hq ha hmax hN hx
  have HP := Lib.hid hp
  have hBg : B ≠ g := fun e => hgB e.symm
  have hBb : B ≠ b := fun e => hbB e.symm
  have hag : ab ≠ g := fun e => hO ab ao rfl (.inl e)
  have hab : ab ≠ b := fun e => hO ab ao rfl (.inr (.inl e))
  clear hp
  go_enter Tryd.func32, Tryd.ntmps32
  go_wp2_with fail
  go_region_held3 (fun w' => w'.cell? ⟨B, 1, none⟩ = some (.int .i64 s.k.n) ∧ w'.cell? ⟨B, 3, none⟩ = some (.int .i64 s.k.pa) ∧ w'.cell? ⟨B, 4, none⟩ = some (.slice (some ⟨ab, ao, none⟩) N ca) ∧ w'.cell? ⟨B, 5, none⟩ = some (.int .i64 s.wr) ∧ w'.cell? ⟨ab, ao + q, none⟩ = some (.int .u32 (s.V q))) (go_keep)
    (first
      | (go_at_call 38
         refine (HW.out _ ((Below.refl _ _).drew)).mono ?_
         rintro e w1 ⟨rfl, hB1⟩
         have HB1 := Lib.hid (below_drew hB1)
         have y1 := keptd k1 hB1
         have y3 := keptd k3 hB1
         have y4 := keptd k4 hB1
         have y5 := keptd k5 hB1
         have y6 := keptd hcell hB1
         clear hB1)
      | (go_at_call 15
         try rw [HHA.out]
         refine (HA.out _ (by first | exact HB1.out | exact (Below.refl _ _).drew)).mono ?_
         rintro e w2 ⟨rfl, hM2, hE2⟩
         have HM2 := Lib.hid hM2
         have HE2 := Lib.hid hE2
         have u1 := hE2.cell y1 hBg hBb
         have u3 := hE2.cell y3 hBg hBb
         have u4 := hE2.cell y4 hBg hBb
         have u5 := hE2.cell y5 hBg hBb
         have u6 := hE2.cell y6 hag hab
         clear hM2 hE2))
  have HT2 := Lib.hid ((HT.out.keep HB1.out).else HE2.out hgB hbB hO)
  have HC2 := Lib.hid ((Chg.of_below (S := ST g b B) HB1.out).trans (chg_else (B := B) HE2.out))
  clear u1 u3 u4 u5 u6
  go_wp2_with fail
  with_reducible refine (HPA.out _ HT2.out.k).mono ?_
  rintro e w3 ⟨rfl, hK3, hT3⟩
  have HK3 := Lib.hid hK3
  have HT3 := Lib.hid hT3
  clear hK3 hT3
  go_wp2_with fail
  go_ret2
  have e0 : s.k.wh = i := by rw [wh1 HP.out]; exact HHA.out
  refine ⟨s.k.pass.ph, 0, rfl, ?_, ⟨c + 1, by omega, Int.le_refl _, ?_⟩, ?_, HC2.out.trans (chg_third HT3.out)⟩
  · rw [Wr.step1 HP.out (by omega), if_pos rfl]
  · rw [Wr.word1 HP.out e0 hi, ← HX.out, ← HQ.out]; have := HM2.out.third HT3.out hgB hbB; rw [afterS1] at this; exact this
  · rw [Wr.step1 HP.out (by omega)]
    exact HT2.out.pass HK3.out HT3.out HWL.out
set_option maxHeartbeats 4000000 in
set_option maxRecDepth 100000 in
theorem write1n (hT : WriterAt w B s.k.ph A ca s) (hgB : g ≠ B) (hbB : b ≠ B) (hG : GOk w) (hM : MemAt w g b n f c) (hn : n ≤ 4096) (hp : s.k.ph = 1) (hi : ¬ (0 ≤ s.k.wh ∧ s.k.wh < n)) :
    Calls Tryd.prog 32 #[.pointer (some ⟨B, 0, none⟩), .pointer (some ⟨g, 0, none⟩)] w fun e w' => WriterP g b n B f c A ca s w e w' := by
  have ew : s.k.wh = s.k.at' + 1 + s.k.pa := wh1 hp
  have hpr := hT.k.pr.2.2 (by omega)
  have hlt := flat_lt (hT.wl.1 (by omega)) hpr.1
  obtain ⟨q, hq⟩ : ∃ q : Nat, q = s.wr * s.k.n + s.k.pa := ⟨_, rfl⟩
  rw [← hq] at hlt
  obtain ⟨N, hN⟩ : ∃ N : Nat, N = s.L * s.k.n := ⟨_, rfl⟩
  obtain ⟨x, hx⟩ : ∃ x : Nat, x = s.wr * s.k.n := ⟨_, rfl⟩
  obtain ⟨ab, ao, rfl⟩ := hT.us.head hlt
  have hcell := hT.us.cell hlt
  have hmax := hT.wl.2.2
  have k4 := hT.c4
  rw [← hN] at hlt hmax k4
  rw [← hx] at hq
  have hmul : IntKind.i64.wrap ((s.wr : Int) * s.k.n) = x := by
    have e : (s.wr : Int) * s.k.n = x := by rw [hx]; simp
    rw [e]
    exact IntWalk.i64_in _ (by omega)
  have hadd : IntKind.i64.wrap ((x : Int) + s.k.pa) = q := by
    rw [IntWalk.i64_in _ (by omega)]; omega
  have HA := Lib.hid (fun W (hB : Below w.heap.size w W) => store_no (s.V q) (s.k.at' + 1 + s.k.pa) g b n f c W (hG.keep hB) (hM.keep hB) hn (by rw [← ew]; exact hi))
  have HW := Lib.hid (fun W (hB : Below w.heap.size w W) => word_any B s.k.ph s.k W (hT.k.keep hB))
  have HPA := Lib.hid (fun W (hK : WkAt W B s.k.ph s.k) => pass_any B s.k.ph s.k W hK hpr.1)
  have k1 := hT.k.c1
  have k2 := hT.k.c2
  have k3 := hT.k.c3
  have k5 := hT.c5
  rw [hp] at k2
  have HT := Lib.hid hT
  have hq0 : (0 : Int) ≤ q := by omega
  have hql : (q : Int) < N := by omega
  have HWL := Lib.hid (hT.wl.1 (by omega))
  have HQ := Lib.hid hq
  have HI := Lib.hid hi
  have HM := Lib.hid hM
  have HX := Lib.hid hx
  clear hG hM hT hlt hpr hq hmax hN hx hi ew
  have HP := Lib.hid hp
  clear hp
  go_enter Tryd.func32, Tryd.ntmps32
  go_wp2_with fail
  go_region_held3 (fun w' => w'.cell? ⟨B, 1, none⟩ = some (.int .i64 s.k.n) ∧ w'.cell? ⟨B, 3, none⟩ = some (.int .i64 s.k.pa) ∧ w'.cell? ⟨B, 4, none⟩ = some (.slice (some ⟨ab, ao, none⟩) N ca) ∧ w'.cell? ⟨B, 5, none⟩ = some (.int .i64 s.wr) ∧ w'.cell? ⟨ab, ao + q, none⟩ = some (.int .u32 (s.V q))) (go_keep)
    (first
      | (go_at_call 38
         refine (HW.out _ ((Below.refl _ _).drew)).mono ?_
         rintro e w1 ⟨rfl, hB1⟩
         have HB1 := Lib.hid (below_drew hB1)
         have y1 := keptd k1 hB1
         have y3 := keptd k3 hB1
         have y4 := keptd k4 hB1
         have y5 := keptd k5 hB1
         have y6 := keptd hcell hB1
         clear hB1)
      | (go_at_call 15
         refine (HA.out _ (by first | exact HB1.out | exact (Below.refl _ _).drew)).mono ?_
         rintro e w2 ⟨rfl, hB2⟩
         have HB2 := Lib.hid (below_two HB1.out hB2)
         have u1 := kept y1 hB2
         have u3 := kept y3 hB2
         have u4 := kept y4 hB2
         have u5 := kept y5 hB2
         have u6 := kept y6 hB2
         clear hB2))
  have HT2 := Lib.hid (HT.out.keep HB2.out)
  have HC2 := Lib.hid (Chg.of_below (S := ST g b B) HB2.out)
  clear u1 u3 u4 u5 u6
  go_wp2_with fail
  with_reducible refine (HPA.out _ HT2.out.k).mono ?_
  rintro e w3 ⟨rfl, hK3, hT3⟩
  have HK3 := Lib.hid hK3
  have HT3 := Lib.hid hT3
  clear hK3 hT3
  go_wp2_with fail
  go_ret2
  have e1 : s.k.lose = { s.k.pass with ph := 4 } := by unfold Wk.lose; rw [if_pos HP.out]
  refine ⟨s.k.pass.ph, 81, rfl, ?_, ⟨c, Int.le_refl _, by omega, ?_⟩, ?_, HC2.out.trans (chg_third HT3.out)⟩
  · rw [Wr.step_no (by rw [HP.out]; omega) HI.out, e1]; rfl
  · rw [Wr.word_no HI.out]; exact (HM.out.keep HB2.out).third HT3.out hgB hbB
  · rw [Wr.step_no (by rw [HP.out]; omega) HI.out, e1]
    have h4 := HT2.out.pass HK3.out HT3.out HWL.out
    exact h4.think 4 ⟨by omega, fun h => absurd h (by omega)⟩ fun h => absurd h (by omega)
set_option maxHeartbeats 4000000 in
set_option maxRecDepth 100000 in
theorem close2 (i : Nat) (hT : WriterAt w B s.k.ph A ca s) (hgB : g ≠ B) (hbB : b ≠ B) (hO : Off (ST g b B) A) (hG : GOk w) (hM : MemAt w g b n f c) (hn : n ≤ 4096) (hc : 0 ≤ c ∧ c ≤ 1000000) (hp : s.k.ph = 2) (ha : s.k.at' = i) (hi : i < n) :
    Calls Tryd.prog 40 #[.pointer (some ⟨B, 0, none⟩), .pointer (some ⟨g, 0, none⟩)] w fun e w' => e = .returned (.tuple #[.int .i64 (s.step n).k.ph, .int .i64 0]) ∧ WriterQ g b n B f c A ca s w w' := by
  have hpr := hT.k.pr.2.2 (by omega)
  have hwl := hT.wl.1 (by omega)
  have hmax := hT.wl.2.2
  have hle : (s.wr + 1) * s.k.n ≤ s.L * s.k.n := Nat.mul_le_mul_right _ hwl
  have hiff : (s.wr + 1) * s.k.n = s.L * s.k.n ↔ s.wr + 1 = s.L := ⟨fun e => Nat.eq_of_mul_eq_mul_right (by omega) e, fun e => by rw [e]⟩
  have k4 := hT.c4
  obtain ⟨N, hN⟩ : ∃ N : Nat, N = s.L * s.k.n := ⟨_, rfl⟩
  obtain ⟨x, hx⟩ : ∃ x : Nat, x = (s.wr + 1) * s.k.n := ⟨_, rfl⟩
  rw [← hN] at hmax k4 hle hiff
  rw [← hx] at hle hiff
  have hw5 : s.wr + 1 ≤ 1099511627776 := by
    have : (s.wr + 1) * 1 ≤ (s.wr + 1) * s.k.n := Nat.mul_le_mul_left _ (by omega)
    omega
  have hs : IntKind.i64.wrap ((s.wr : Int) + 1) = (s.wr : Int) + 1 := IntWalk.i64_in _ (by omega)
  have hmul : IntKind.i64.wrap (((s.wr : Int) + 1) * s.k.n) = x := by
    have e : ((s.wr : Int) + 1) * s.k.n = x := by rw [hx]; simp
    rw [e]
    exact IntWalk.i64_in _ (by omega)
  have HA := Lib.hid (add_yes 1 i g b n f c w hG hM hn hi hc)
  have k0 := hT.k.c0
  rw [ha] at k0
  have HT := Lib.hid hT
  have hBg : B ≠ g := fun e => hgB e.symm
  have hBb : B ≠ b := fun e => hbB e.symm
  have HP := Lib.hid hp
  have HHA := Lib.hid ha
  have HWL := Lib.hid hwl
  have HIF := Lib.hid hiff
  have HX := Lib.hid (And.intro hle hpr)
  clear hG hM hc hT hpr hwl hmax hx hN hle hp ha hiff
  go_enter Tryd.func40, Tryd.ntmps40
  go_wp2_with fail
  with_reducible refine HA.out.mono ?_
  rintro e w1 ⟨rfl, hM1, hE1⟩
  have HT1 := Lib.hid (HT.out.else hE1 hgB hbB hO)
  have q1 := HT1.out.k.c1
  have q4 := hE1.cell k4 hBg hBb
  have q5 := HT1.out.c5
  have z5 := HT1.out.k.fz 5
  have HM1 := Lib.hid hM1
  have HE1 := Lib.hid (chg_else (B := B) hE1)
  clear hM1 hE1 k0 k4
  have e0 : s.k.wh = i := by rw [wh02 (.inr HP.out)]; exact HHA.out
  have HQ5 : Hid (∀ q : Nat, q = (if s.wr + 1 = s.L then 3 else 0) → ∀ j, WriterQ g b n B f c A ca s w ((w1.setCell ⟨B, 5, none⟩ (.int .i64 ((s.wr : Int) + 1))).drewN j)) := Lib.hid fun q hq j => by
    refine ⟨⟨c + 1, by omega, Int.le_refl _, ?_⟩, ?_, (HE1.out.setB _).trans (Chg.of_below (below_drewN (Below.refl _ _) j))⟩
    · rw [Wr.word02 (.inr HP.out) e0 hi]
      have h2 := HM1.out
      rw [afterS3] at h2
      exact (h2.setOut (a := ⟨B, 5, none⟩) hBg hBb _).keep (below_drewN (Below.refl _ _) j)
    · rw [Wr.step2 HP.out (by omega), ← hq]
      exact (HT1.out.wrote HWL.out HP.out q hq).keep (below_drewN (Below.refl _ _) j)
  by_cases hx : s.wr + 1 = s.L
  · have hy : x = N := HIF.out.2 hx
    subst hy
    have HX2 := Lib.hid hx
    clear hx
    go_wp2_with fail
    go_quiet (fail)
    go_wp2_with fail
    go_ret2
    exact ⟨by rw [Wr.step2 HP.out (by omega), if_pos HX2.out]; rfl, HQ5.out 3 (by rw [if_pos HX2.out]) _⟩
  · have hy : ¬ (x : Int) = N := fun e => hx (HIF.out.1 (by omega))
    have HX2 := Lib.hid hx
    clear hx
    go_wp2_with fail
    go_quiet (fail)
    go_wp2_with fail
    go_ret2
    exact ⟨by rw [Wr.step2 HP.out (by omega), if_neg HX2.out]; rfl, HQ5.out 0 (by rw [if_neg HX2.out]) _⟩
set_option maxHeartbeats 4000000 in
set_option maxRecDepth 100000 in
theorem close2n (hT : WriterAt w B s.k.ph A ca s) (hG : GOk w) (hM : MemAt w g b n f c) (hn : n ≤ 4096) (hp : s.k.ph = 2) (hi : ¬ (0 ≤ s.k.wh ∧ s.k.wh < n)) :
    Calls Tryd.prog 40 #[.pointer (some ⟨B, 0, none⟩), .pointer (some ⟨g, 0, none⟩)] w fun e w' => e = .returned (.tuple #[.int .i64 4, .int .i64 81]) ∧ WriterQ g b n B f c A ca s w w' := by
  have e0 : s.k.wh = s.k.at' := wh02 (.inr hp)
  have HA := Lib.hid (add_no 1 s.k.at' g b n f c w hG hM hn (by rw [← e0]; exact hi))
  have k0 := hT.k.c0
  have HT := Lib.hid hT
  have HM := Lib.hid hM
  have HI := Lib.hid hi
  have HP := Lib.hid hp
  clear hG hM hT hi e0 hp
  go_enter Tryd.func40, Tryd.ntmps40
  go_wp2_with fail
  with_reducible refine HA.out.mono ?_
  rintro e w1 ⟨rfl, hB1⟩
  have HT1 := Lib.hid (HT.out.keep hB1)
  have HM1 := Lib.hid (HM.out.keep hB1)
  have HE1 := Lib.hid (Chg.of_below (S := ST g b B) hB1)
  clear hB1 k0
  go_wp2_with fail
  go_ret2
  have e1 : s.k.lose = { s.k with ph := 4 } := by unfold Wk.lose; rw [if_neg (by rw [HP.out]; omega)]
  refine ⟨rfl, ⟨c, Int.le_refl _, by omega, ?_⟩, ?_, HE1.out⟩
  · rw [Wr.word_no HI.out]; exact HM1.out
  · rw [Wr.step_no (by rw [HP.out]; omega) HI.out, e1]
    exact HT1.out.think 4 ⟨by omega, fun h => absurd h (by omega)⟩ fun h => absurd h (by omega)
set_option maxHeartbeats 4000000 in
set_option maxRecDepth 100000 in
theorem write2 (pr er : Int) (Q : World → Prop) (hT : WriterAt w B s.k.ph A ca s) (hp : s.k.ph = 2)
    (hcall : Calls Tryd.prog 40 #[.pointer (some ⟨B, 0, none⟩), .pointer (some ⟨g, 0, none⟩)] w fun e w' => e = .returned (.tuple #[.int .i64 pr, .int .i64 er]) ∧ Q w') :
    Calls Tryd.prog 32 #[.pointer (some ⟨B, 0, none⟩), .pointer (some ⟨g, 0, none⟩)] w fun e w' => e = .returned (.tuple #[.int .i64 pr, .int .i64 er]) ∧ Q w' := by
  have k2 := hT.k.c2
  rw [hp] at k2
  have HC := Lib.hid hcall
  clear hT hcall hp
  go_enter Tryd.func32, Tryd.ntmps32
  go_wp2_with fail
  with_reducible refine HC.out.mono ?_
  rintro e w1 ⟨rfl, hq⟩
  have HQ := Lib.hid hq
  clear hq
  go_wp2_with fail
  go_ret2
  exact ⟨rfl, HQ.out⟩
theorem write_any (hT : WriterAt w B s.k.ph A ca s) (hgB : g ≠ B) (hbB : b ≠ B) (hO : Off (ST g b B) A) (hG : GOk w) (hM : MemAt w g b n f c) (hn : n ≤ 4096) (hc : 0 ≤ c ∧ c ≤ 1000000) (hp : s.k.ph < 3) :
    Calls Tryd.prog 32 #[.pointer (some ⟨B, 0, none⟩), .pointer (some ⟨g, 0, none⟩)] w fun e w' => WriterP g b n B f c A ca s w e w' := by
  have h3 : s.k.ph = 0 ∨ s.k.ph = 1 ∨ s.k.ph = 2 := by omega
  by_cases hi : 0 ≤ s.k.wh ∧ s.k.wh < n
  · obtain ⟨i, hi'⟩ : ∃ i : Nat, s.k.wh = i := ⟨s.k.wh.toNat, by omega⟩
    rcases h3 with h | h | h
    · exact write0 B g b n A ca s f c w i hT hgB hbB hO hG hM hn hc h (by rw [← wh02 (.inl h)]; exact hi') (by omega)
    · exact write1 B g b n A ca s f c w i hT hgB hbB hO hG hM hn hc h (by rw [← wh1 h]; exact hi') (by omega)
    · exact (write2 B g A ca s w _ _ _ hT h (close2 B g b n A ca s f c w i hT hgB hbB hO hG hM hn hc h (by rw [← wh02 (.inr h)]; exact hi') (by omega))).mono fun e w' ⟨he, hq⟩ => ⟨_, _, he, by rw [if_pos rfl], hq⟩
  · rcases h3 with h | h | h
    · exact write0n B g b n A ca s f c w hT hG hM hn h hi
    · exact write1n B g b n A ca s f c w hT hgB hbB hG hM hn h hi
    · exact (write2 B g A ca s w _ _ _ hT h (close2n B g b n A ca s f c w hT hG hM hn h hi)).mono fun e w' ⟨he, hq⟩ => ⟨_, _, he, by
        rw [Wr.step_no (by omega) hi, if_neg (by decide)]; rfl, hq⟩
theorem enters32 : Enters 32 := enters_of Tryd.func32 (by kernel_rfl) rfl
theorem Wr.step_at (m : Nat) (s : Wr) : (s.step m).k.at' = s.k.at' := by
  unfold Wr.step; split
  · rfl
  · split
    · split
      · rfl
      · exact Wk.pass_at _
      · rfl
    · show s.k.lose.at' = _
      unfold Wk.lose; split
      · exact Wk.pass_at _
      · rfl
set_option maxHeartbeats 4000000 in
/-- A step of a writer. -/
theorem writer_step (hT : WriterAt w B s.k.ph A ca s) (hgB : g ≠ B) (hbB : b ≠ B) (hO : Off (ST g b B) A) (hG : GOk w) (hM : MemAt w g b n f c) (hn : n ≤ 4096) (hc : 0 ≤ c ∧ c ≤ 1000000) :
    Calls Tryd.prog 17 #[.pointer (some ⟨B, 0, none⟩), .pointer (some ⟨g, 0, none⟩)] w fun e w' => e = .returned (.bool (decide (3 ≤ (s.step n).k.ph))) ∧
      (∃ c', c ≤ c' ∧ c' ≤ c + 1 ∧ MemAt w' g b n (s.word n f) c') ∧ WriterAt w' B (s.step n).k.ph A ca (s.step n) ∧ Chg (ST g b B) w w' := by
  have hmf : ∀ (fn : Fn) (first cap : Array Value) (w : World), (Instr.makeFunc fn first cap).run Tryd.prog w = .ok (.func fn first cap) w := fun _ _ _ _ => rfl
  by_cases hp : s.k.ph < 3
  · have HS := Lib.hid (step_go 32 B g w (WriterQ g b n B f c A ca s w) (s.step n).k.ph s.k.ph hp enters32 hT.k.c2 (fun w' hq => ⟨hq.2.1.k.c2, hq.2.1.k.fz 2⟩) ((write_any B g b n A ca s f c w hT hgB hbB hO hG hM hn hc hp).mono fun e w' ⟨pr, er, he, h1, h2⟩ => ⟨pr, er, he, by rw [h1], h2⟩))
    clear hT hG hM
    go_enter Tryd.func17, Tryd.ntmps17
    go_wp2_with fail
    with_reducible refine HS.out.mono ?_
    rintro e w1 ⟨rfl, w2, ⟨⟨c', h1, h2, hm⟩, hw, hch⟩, rfl⟩
    have HR := Lib.hid (And.intro (And.intro h1 h2) (And.intro hm (And.intro hw hch)))
    clear h1 h2 hm hw hch
    go_wp2_with fail
    go_ret
    obtain ⟨⟨h1, h2⟩, hm, hw, hch⟩ := HR.out
    exact ⟨rfl, ⟨c', h1, h2, hm.setOut (a := ⟨B, 2, none⟩) (fun e => hgB e.symm) (fun e => hbB e.symm) _⟩, hw.set _, hch.setB _⟩
  · have h3 : 3 ≤ s.k.ph := by omega
    have HS := Lib.hid (step_over B g w s.k.ph h3 hT.k.c2)
    have HT := Lib.hid hT
    have HM := Lib.hid hM
    clear hT hG hM
    go_enter Tryd.func17, Tryd.ntmps17
    go_wp2_with fail
    with_reducible refine (HS.out _).mono ?_
    rintro e w1 ⟨rfl, rfl⟩
    go_wp2_with fail
    go_ret
    rw [Wr.step_over h3]
    refine ⟨by rw [decide_eq_true h3]; rfl, ⟨c, Int.le_refl _, by omega, ?_⟩, HT.out, Chg.refl _⟩
    unfold Wr.word
    rw [if_pos h3]
    exact HM.out
end
end Go.Proofs.YtoaaeamogpdcgaaDoor
