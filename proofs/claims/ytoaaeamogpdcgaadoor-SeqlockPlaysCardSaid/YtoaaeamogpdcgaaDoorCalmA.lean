/-
  A writer alone; a reader whom nobody disturbs; the given comparison of words; words appended to none.
-/
import Derived.Test.YtoaaeamogpdcgaaDoorStW
namespace Go.Proofs.YtoaaeamogpdcgaaDoor
open Go.RowKit

/-- A memory and a writer of it. -/
structure Mw (H : Nat) (w : World) (g b n B : Nat) (A : Option Addr) (ca : Nat) (f : Nat → Int) (C : Nat) (s : Wr) : Prop where
  mem : ∃ c : Int, 0 ≤ c ∧ c ≤ C ∧ MemAt w g b n f c
  wr : WriterAt w B s.k.ph A ca s
  gok : GOk w
  wf : Wf n f
  vf : Wf (s.L * s.k.n) s.V
  lo : H ≤ g ∧ H ≤ b ∧ H ≤ B ∧ 6 ≤ H
  ne : g ≠ B ∧ b ≠ B
  of : ∀ x o, A = some ⟨x, o, none⟩ → x ≠ g ∧ x ≠ b ∧ x ≠ B
  n1 : n ≤ 4096
section
variable {H : Nat} {w : World} {g b n B : Nat} {A : Option Addr} {ca : Nat} {f : Nat → Int} {C : Nat} {s : Wr}
theorem Mw.hs (h : Mw H w g b n B A ca f C s) : H ≤ w.heap.size := by have := h.wr.k.lt; have := h.lo; omega
theorem mw_write (h : Mw H w g b n B A ca f C s) (hC : C ≤ 1000000) (d : Bool) (hd : decide (3 ≤ (s.step n).k.ph) = d) :
    Calls Tryd.prog 17 #[.pointer (some ⟨B, 0, none⟩), .pointer (some ⟨g, 0, none⟩)] w fun e w' => e = .returned (.bool d) ∧ Mw H w' g b n B A ca (s.word n f) (C + 1) (s.step n) ∧ Below H w w' := by
  obtain ⟨c, c0, c1, hm⟩ := h.mem
  subst hd
  refine (writer_step B g b n A ca s f c w h.wr h.ne.1 h.ne.2 (fun x o e hs => ?_) h.gok hm h.n1 (by omega)).mono ?_
  · have := h.of x o e
    rcases hs with rfl | rfl | rfl
    · exact this.1 rfl
    · exact this.2.1 rfl
    · exact this.2.2 rfl
  · rintro e w' ⟨he, ⟨c', h1, h2, hm'⟩, hw, hC'⟩
    have hlo : ∀ k, ST g b B k → H ≤ k := fun k hk => by
      have := h.lo
      rcases hk with rfl | rfl | rfl <;> omega
    refine ⟨he, ⟨⟨c', by omega, by omega, hm'⟩, hw, hC'.six (fun k hk => by have := hlo k hk; have := h.lo; omega) h.gok, ?_, ?_, h.lo, h.ne, h.of, h.n1⟩, hC'.below hlo h.hs⟩
    · unfold Wr.word
      split
      · exact h.wf
      · split
        · split
          · exact wf_upd h.wf _ _ (h.vf _ (flat_lt (h.wr.wl.1 (by omega)) (h.wr.k.pr.2.2 (by omega)).1))
          · exact wf_upd h.wf _ _ (inc_rng _)
        · exact h.wf
    · rw [Wr.step_L, Wr.step_V, Wr.step_n]; exact h.vf
/-- A reader is made behind it. -/
theorem Mw.reader {w' : World} {cf : Cfg} (h : Mw H w g b n B A ca f C s) (hw : WInv cf s f) (hok : cf.Ok n) (hR : ReaderAt w' w.heap.size ((rd0 cf.at' cf.n).k.ph : Nat) (rd0 cf.at' cf.n)) (hB : Below w.heap.size w w') : St H w' ⟨g, b, n, B, w.heap.size, A, ca⟩ cf C s f (rd0 cf.at' cf.n) 0 := by
  obtain ⟨c, c0, c1, hm⟩ := h.mem
  have h1 := hm.ltg
  have h2 := hm.row.lt
  have h3 := h.wr.k.lt
  have h4 := h.hs
  refine ⟨⟨⟨c, c0, c1, hm.keep hB⟩, h.wr.keep hB, hR, h.gok.keep hB, h.wf, h.vf, ⟨h.lo.1, h.lo.2.1, h.lo.2.2.1, h4, h.lo.2.2.2⟩, ⟨h.ne.1, h.ne.2, by show g ≠ w.heap.size; omega, by show b ≠ w.heap.size; omega, by show B ≠ w.heap.size; omega⟩, fun x o e => ?_, h.n1⟩, hw, rinv0 cf n hok s f 0 (Nat.zero_le _), hok⟩
  have h7 := h.of x o e
  refine ⟨h7.1, h7.2.1, h7.2.2, ?_⟩
  show x ≠ w.heap.size
  have hl : 0 < s.L * s.k.n := by rw [hw.eL, hw.en]; exact Nat.mul_pos hok.L1 hok.n1
  obtain ⟨b', o', e', hc⟩ := h.wr.us 0 hl
  have e : A = some ⟨x, o, none⟩ := e
  rw [e] at e'
  injection e' with e'
  injection e' with e1
  subst e1
  have := cell_lt hc
  simp at this
  omega
end
/-- How many steps a reader has done that nobody disturbs. -/
def Rd.tm (r : Rd) : Nat := match r.k.ph with | 0 => 0 | 1 => 1 + r.k.pa | 2 => r.k.n + 1 | _ => r.k.n + 2
structure Calm (cf : Cfg) (s : Wr) (f : Nat → Int) (b : Nat) (r : Rd) : Prop where
  ev : s.k.ph = 0 ∨ s.k.ph = 3
  cn : r.k.ph ≠ 0 → f cf.at' = r.cn ∧ b = s.wr ∧ r.tr = 1
  c0 : r.k.ph = 0 → r.tr = 0
theorem calm_step {H : Nat} {w : World} {q : Sb} {cf : Cfg} {C : Nat} {s : Wr} {f : Nat → Int} {r : Rd} {b b' : Nat} (h : St H w q cf C s f r b) (hc : Calm cf s f b r) (hp : r.k.ph < 3) (hcase : (r.step q.n f).tr = r.tr ∧ b' = b ∨ r.k.ph = 0 ∧ (r.step q.n f).tr = r.tr + 1 ∧ b' = s.wr ∧ (r.step q.n f).k.ph = 1) :
    Calm cf s f b' (r.step q.n f) ∧ (r.step q.n f).tm = r.tm + 1 := by
  have hcc : r.k.ph = 0 ∨ r.k.ph = 1 ∨ r.k.ph = 2 := by omega
  have hev := (h.wi.even h.ok).2 hc.ev
  have hen := h.ri.en
  have hpa := h.ri.pa hp
  rcases hcc with e | e | e
  · obtain ⟨i, hi, him, h1, _⟩ := h.ri.whin h.ok hp
    have h1 := h1 (by omega)
    subst h1
    have hpz := hpa.2 (by omega)
    have htr := hc.c0 e
    rw [Rd.step0 e hi him, if_neg (by omega)] at hcase ⊢
    rcases hcase with ⟨h1, _⟩ | ⟨_, _, h2, _⟩
    · have h1 : r.tr + 1 = r.tr := h1; omega
    · refine ⟨⟨hc.ev, fun _ => ⟨rfl, h2, by show r.tr + 1 = 1; omega⟩, fun h => absurd h (by show ¬ 1 = 0; omega)⟩, ?_⟩
      unfold Rd.tm; rw [e]; simp [hpz]
  · obtain ⟨i, hi, him, _, h1⟩ := h.ri.whin h.ok hp
    have hb : b' = b := by
      rcases hcase with ⟨_, h2⟩ | ⟨h0, _⟩
      · exact h2
      · omega
    subst hb
    have hcn := hc.cn (by omega)
    rw [Rd.step1 e hi him]
    by_cases hx : r.k.pa + 1 < r.k.n
    · rw [Wk.pass_yes hx]
      refine ⟨⟨hc.ev, fun _ => hcn, fun h => absurd h (by show ¬ 1 = 0; omega)⟩, ?_⟩
      unfold Rd.tm; rw [e]; simp; omega
    · rw [Wk.pass_no hx]
      refine ⟨⟨hc.ev, fun _ => hcn, fun h => absurd h (by show ¬ 2 = 0; omega)⟩, ?_⟩
      unfold Rd.tm; rw [e]; simp; omega
  · obtain ⟨i, hi, him, h1, _⟩ := h.ri.whin h.ok hp
    have h1 := h1 (by omega)
    subst h1
    have hb : b' = b := by
      rcases hcase with ⟨_, h2⟩ | ⟨h0, _⟩
      · exact h2
      · omega
    subst hb
    have hcn := hc.cn (by omega)
    rw [Rd.step2 e hi him, if_pos hcn.1]
    refine ⟨⟨hc.ev, fun _ => hcn, fun h => absurd h (by show ¬ 3 = 0; omega)⟩, ?_⟩
    unfold Rd.tm; rw [e]; rfl
theorem rtm_done {cf : Cfg} {s : Wr} {f : Nat → Int} {b : Nat} {r : Rd} (h : RInv cf s f b r) : r.tm ≤ cf.n + 2 ∧ (r.k.ph = 3 ↔ r.tm = cf.n + 2) := by
  have h3 := h.p3
  have hn := h.en
  have hc : r.k.ph = 0 ∨ r.k.ph = 1 ∨ r.k.ph = 2 ∨ r.k.ph = 3 := by omega
  unfold Rd.tm
  rcases hc with e | e | e | e
  · rw [e]; simp
  · have := h.pa (by omega); rw [e]; simp; omega
  · rw [e, hn]; simp
  · rw [e, hn]; simp
set_option maxHeartbeats 2000000 in
theorem same_yes (A B : Option Addr) (c d n : Nat) (f : Nat → Int) (w : World) (hA : Us w A n f) (hB : Us w B n f) (hn : n ≤ 4096) :
    Calls Tryd.prog 23 #[.slice A n c, .slice B n d] w fun e w' => e = .returned (.bool true) ∧ Below w.heap.size w w' := by
  have HA := Lib.hid hA
  have HB := Lib.hid hB
  clear hA hB
  go_enter Tryd.func23, Tryd.ntmps23
  go_wp2_with fail
  go_loopw [5] (fun i wr => ∃ k : Nat, k ≤ n ∧ i = .int .i64 k ∧ Below w.heap.size w wr) (fun i _ => n - (intOf i).toNat)
  case atStart => exact ⟨0, by omega, rfl, Below.refl _ _⟩
  case round =>
    obtain ⟨k, hk, rfl, hB⟩ := hrel
    have HBr := Lib.hid hB
    by_cases hlt : k < n
    · obtain ⟨b, o, rfl⟩ := HA.out.head hlt
      obtain ⟨b2, o2, rfl⟩ := HB.out.head hlt
      have c1 := kept (HA.out.cell hlt) hB
      have c2 := kept (HB.out.cell hlt) hB
      clear hB
      go_wp2_with fail
      go_quiet (fail)
      go_wp2_with fail
      all_goals
        go_roundw
        case rel => exact ⟨k + 1, by omega, by go_num, below_drewN HBr.out _⟩
        case measure => simp [intOf]; omega
    · clear hB
      go_wp2_with fail
      go_ret
      exact ⟨rfl, HBr.out⟩
/-- The append of some words to an empty list. -/
theorem wpList_append_words {ops : Array Oper} {rest : List Oper} {o : Oper} {a : Act} {Q : Exit → Act → World → Prop} (hgd : o.guard = none) (s x : Operand)
    (ho : o.op = .call { callee := .builtin .append, args := #[s, x], argTypes := #[37, 37] }) {w : World} {n cp : Nat} {U : Option Addr} {f : Nat → Int} (h0 : 0 < n) (hn : n ≤ 4096) (hU : Us w U n f) (H : Nat) (hH : w.heap.size = H)
    (hs : a.eval s = .slice (some ⟨H, 0, none⟩) 0 0) (hx : a.eval x = .slice U n cp)
    (hQ : ∀ G cap' w2, H ≤ G → G < w2.heap.size → Us w2 (some ⟨G, 0, none⟩) n f → (∀ j, w2.frozen? ⟨G, j, none⟩ = false) → Below w.heap.size w w2 → wpList Tryd.prog ops Q rest (a.put o.dst (.slice (some ⟨G, 0, none⟩) n cap')) w2) :
    wpList Tryd.prog ops Q (o :: rest) a (w.alloc (.cells #[] 22)) := by
  subst hH
  obtain ⟨i0, hi, hz0, hz1, hz2⟩ := info_parts info22
  have hA : Below w.heap.size w (w.alloc (.cells #[] 22)) := (Below.refl _ _).alloc (Nat.le_refl _) _
  have hown : (w.alloc (.cells #[] 22)).ownsRow w.heap.size 22 1 (.slice (some ⟨w.heap.size, 0, none⟩) 0 0) 0 [] := World.ownsRow_lit w #[] 0 (Nat.le_refl _) (by decide) rfl
  obtain ⟨b, o', rfl⟩ := hU.head h0
  refine wpList_append_own _ hgd s x 37 ho w.heap.size 22 i0 (.int .u32 0) 1 4 Tryd.underlying37 hi hz0 hz1 hz2 rfl (by decide) _ 0 [] hs hown ⟨b, o', none⟩ n cp ((List.range n).map fun i => .int .u32 (f i)) hx (by simp) ?_ ?_ (by unfold maxLen; omega) (by omega) (by simp) ?_
  · intro j u hu
    have hj : j < n := by have := (List.getElem?_eq_some_iff.1 hu).1; simpa using this
    rw [List.getElem?_map, List.getElem?_range hj] at hu
    injection hu with hu
    subst hu
    rw [add_off]
    exact kept (hU.cell hj) hA
  · intro u hu
    obtain ⟨i, _, rfl⟩ := List.mem_map.1 hu
    rfl
  · intro v' w' hown' hgrow _
    have hO : w'.ownsRow w.heap.size 22 1 v' n ((List.range n).map fun i => .int .u32 (f i)) := by simpa using hown'
    obtain ⟨G, cap', rfl, h1, h2, h3, h4⟩ := words_own h0 hO
    exact hQ G cap' w' h1 h2 h3 h4 (hA.grown hgrow (by simp) (fun k hk => (World.ownsRow.lt hown k hk).1))
end Go.Proofs.YtoaaeamogpdcgaaDoor
