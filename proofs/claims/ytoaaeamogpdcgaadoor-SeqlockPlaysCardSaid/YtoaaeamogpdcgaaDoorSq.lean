/-
  A writer and a reader of the same words: what each step makes of them.
-/
import Derived.Test.YtoaaeamogpdcgaaDoorNewW
namespace Go.Proofs.YtoaaeamogpdcgaaDoor
open Go.RowKit

/-- The blocks of a memory, a writer and its words, a reader. -/
structure Sb where
  g : Nat
  b : Nat
  n : Nat
  B : Nat
  R : Nat
  A : Option Addr
  ca : Nat
def Wf (n : Nat) (f : Nat → Int) : Prop := ∀ i, i < n → 0 ≤ f i ∧ f i < 4294967296
/-- A memory, a writer and a reader, in blocks from H on; the memory was used C times at most. -/
structure Sq (H : Nat) (w : World) (q : Sb) (f : Nat → Int) (C : Nat) (s : Wr) (r : Rd) : Prop where
  mem : ∃ c : Int, 0 ≤ c ∧ c ≤ C ∧ MemAt w q.g q.b q.n f c
  wr : WriterAt w q.B s.k.ph q.A q.ca s
  rd : ReaderAt w q.R r.k.ph r
  gok : GOk w
  wf : Wf q.n f
  vf : Wf (s.L * s.k.n) s.V
  lo : H ≤ q.g ∧ H ≤ q.b ∧ H ≤ q.B ∧ H ≤ q.R ∧ 6 ≤ H
  ne : q.g ≠ q.B ∧ q.b ≠ q.B ∧ q.g ≠ q.R ∧ q.b ≠ q.R ∧ q.B ≠ q.R
  of : ∀ b o, q.A = some ⟨b, o, none⟩ → b ≠ q.g ∧ b ≠ q.b ∧ b ≠ q.B ∧ b ≠ q.R
  n1 : q.n ≤ 4096
theorem Sq.keep {H : Nat} {w w' : World} {q : Sb} {f : Nat → Int} {C : Nat} {s : Wr} {r : Rd} (h : Sq H w q f C s r) (hB : Below w.heap.size w w') : Sq H w' q f C s r := by
  obtain ⟨c, c0, c1, hm⟩ := h.mem
  exact ⟨⟨c, c0, c1, hm.keep hB⟩, h.wr.keep hB, h.rd.keep hB, h.gok.keep hB, h.wf, h.vf, h.lo, h.ne, h.of, h.n1⟩
theorem Sq.more {H : Nat} {w : World} {q : Sb} {f : Nat → Int} {C C' : Nat} {s : Wr} {r : Rd} (h : Sq H w q f C s r) (hC : C ≤ C') : Sq H w q f C' s r := by
  obtain ⟨c, c0, c1, hm⟩ := h.mem
  exact ⟨⟨c, c0, by omega, hm⟩, h.wr, h.rd, h.gok, h.wf, h.vf, h.lo, h.ne, h.of, h.n1⟩
theorem Wr.step_L (m : Nat) (s : Wr) : (s.step m).L = s.L := by
  unfold Wr.step; split
  · rfl
  · split
    · split <;> rfl
    · rfl
theorem Wr.step_V (m : Nat) (s : Wr) : (s.step m).V = s.V := by
  unfold Wr.step; split
  · rfl
  · split
    · split <;> rfl
    · rfl
theorem Wr.step_n (m : Nat) (s : Wr) : (s.step m).k.n = s.k.n := by
  unfold Wr.step; split
  · rfl
  · split
    · split
      · rfl
      · exact Wk.pass_n _
      · rfl
    · show s.k.lose.n = _
      unfold Wk.lose; split
      · exact Wk.pass_n _
      · rfl
theorem wf_upd {n : Nat} {f : Nat → Int} (h : Wf n f) (i : Nat) (x : Int) (hx : 0 ≤ x ∧ x < 4294967296) : Wf n (upd f i x) := fun j hj => by
  by_cases e : j = i
  · subst e; rw [upd_same]; exact hx
  · rw [upd_other e]; exact h j hj
theorem Sq.wfw {H : Nat} {w : World} {q : Sb} {f : Nat → Int} {C : Nat} {s : Wr} {r : Rd} (h : Sq H w q f C s r) : Wf q.n (s.word q.n f) := by
  unfold Wr.word
  split
  · exact h.wf
  · split
    · split
      · exact wf_upd h.wf _ _ (h.vf _ (flat_lt (h.wr.wl.1 (by omega)) (h.wr.k.pr.2.2 (by omega)).1))
      · exact wf_upd h.wf _ _ (inc_rng _)
    · exact h.wf
theorem sq_write {H : Nat} {w : World} {q : Sb} {f : Nat → Int} {C : Nat} {s : Wr} {r : Rd} (h : Sq H w q f C s r) (hC : C ≤ 1000000) (d : Bool) (hd : decide (3 ≤ (s.step q.n).k.ph) = d) :
    Calls Tryd.prog 17 #[.pointer (some ⟨q.B, 0, none⟩), .pointer (some ⟨q.g, 0, none⟩)] w fun e w' => e = .returned (.bool d) ∧ Sq H w' q (s.word q.n f) (C + 1) (s.step q.n) r ∧ Below H w w' := by
  obtain ⟨c, c0, c1, hm⟩ := h.mem
  subst hd
  refine (writer_step q.B q.g q.b q.n q.A q.ca s f c w h.wr h.ne.1 h.ne.2.1 (fun b o e hs => ?_) h.gok hm h.n1 (by omega)).mono ?_
  · have := h.of b o e
    rcases hs with rfl | rfl | rfl
    · exact this.1 rfl
    · exact this.2.1 rfl
    · exact this.2.2.1 rfl
  · rintro e w' ⟨he, ⟨c', h1, h2, hm'⟩, hw, hC'⟩
    have hlo : ∀ k, ST q.g q.b q.B k → H ≤ k := fun k hk => by
      have := h.lo
      rcases hk with rfl | rfl | rfl <;> omega
    have hs : H ≤ w.heap.size := by have := hm.ltg; have := h.lo.1; omega
    refine ⟨he, ⟨⟨c', by omega, by omega, hm'⟩, hw, h.rd.chg hC' (fun hk => ?_), hC'.six (fun k hk => by have := hlo k hk; have := h.lo; omega) h.gok, h.wfw, ?_, h.lo, h.ne, h.of, h.n1⟩, hC'.below hlo hs⟩
    · have := h.ne
      rcases hk with e | e | e
      · exact this.2.2.1 e.symm
      · exact this.2.2.2.1 e.symm
      · exact this.2.2.2.2 e.symm
    · rw [Wr.step_L, Wr.step_V, Wr.step_n]; exact h.vf
theorem sq_read {H : Nat} {w : World} {q : Sb} {f : Nat → Int} {C : Nat} {s : Wr} {r : Rd} (h : Sq H w q f C s r) (hC : C ≤ 1000000) (ht : r.tr + 1 ≤ 1000000) (d : Bool) (hd : decide (3 ≤ (r.step q.n f).k.ph) = d) :
    Calls Tryd.prog 19 #[.pointer (some ⟨q.R, 0, none⟩), .pointer (some ⟨q.g, 0, none⟩)] w fun e w' => e = .returned (.bool d) ∧ Sq H w' q f (C + 1) s (r.step q.n f) ∧ Below H w w' := by
  obtain ⟨c, c0, c1, hm⟩ := h.mem
  subst hd
  refine (reader_step q.R q.g q.b q.n r f c w h.rd h.ne.2.2.1 h.ne.2.2.2.1 h.gok hm h.n1 (by omega) h.wf ht).mono ?_
  rintro e w' ⟨he, ⟨c', h1, h2, hm'⟩, hr, hC'⟩
  have hlo : ∀ k, ST q.g q.b q.R k → H ≤ k := fun k hk => by
    have := h.lo
    rcases hk with rfl | rfl | rfl <;> omega
  have hs : H ≤ w.heap.size := by have := hm.ltg; have := h.lo.1; omega
  refine ⟨he, ⟨⟨c', by omega, by omega, hm'⟩, h.wr.chg hC' (fun hk => ?_) (fun b o e hs => ?_), hr, hC'.six (fun k hk => by have := hlo k hk; have := h.lo; omega) h.gok, h.wf, h.vf, h.lo, h.ne, h.of, h.n1⟩, hC'.below hlo hs⟩
  · have := h.ne
    rcases hk with e | e | e
    · exact this.1 e.symm
    · exact this.2.1 e.symm
    · exact this.2.2.2.2 e
  · have := h.of b o e
    rcases hs with rfl | rfl | rfl
    · exact this.1 rfl
    · exact this.2.1 rfl
    · exact this.2.2.2 rfl
/-- A word is stored. -/
theorem sq_store {H : Nat} {w : World} {q : Sb} {f : Nat → Int} {C : Nat} {s : Wr} {r : Rd} (h : Sq H w q f C s r) (hC : C ≤ 1000000) (i : Nat) (a v : Int) (ha : a = i) (hi : i < q.n) (hv : 0 ≤ v ∧ v < 4294967296) :
    Calls Tryd.prog 15 #[.pointer (some ⟨q.g, 0, none⟩), .int .i64 a, .int .u32 v] w fun e w' => e = .returned (.int .i64 0) ∧ Sq H w' q (upd f i v) (C + 1) s r ∧ Below H w w' := by
  obtain ⟨c, c0, c1, hm⟩ := h.mem
  subst ha
  refine (store_yes v i q.g q.b q.n f c w h.gok hm h.n1 hi (by omega)).mono ?_
  rintro e w' ⟨he, hm', hE⟩
  have hs : H ≤ w.heap.size := by have := hm.ltg; have := h.lo.1; omega
  have hC' := Chg.of_else hE
  refine ⟨he, ⟨⟨c + 1, by omega, by omega, hm'⟩, h.wr.chg hC' (fun hk => ?_) (fun b o e hs => ?_), h.rd.chg hC' (fun hk => ?_), hC'.six (fun k hk => by have := h.lo; omega) h.gok, wf_upd h.wf i v hv, h.vf, h.lo, h.ne, h.of, h.n1⟩, hC'.below (fun k hk => by have := h.lo; omega) hs⟩
  · have := h.ne; omega
  · have := h.of b o e; omega
  · have := h.ne; omega
/-- A word is loaded. -/
theorem sq_load {H : Nat} {w : World} {q : Sb} {f : Nat → Int} {C : Nat} {s : Wr} {r : Rd} (h : Sq H w q f C s r) (hC : C ≤ 1000000) (i : Nat) (a : Int) (ha : a = i) (hi : i < q.n) :
    Calls Tryd.prog 27 #[.pointer (some ⟨q.g, 0, none⟩), .int .i64 a] w fun e w' => e = .returned (.tuple #[.int .u32 (f i), .int .i64 0]) ∧ Sq H w' q f (C + 1) s r ∧ Below H w w' := by
  obtain ⟨c, c0, c1, hm⟩ := h.mem
  subst ha
  refine (load_yes i q.g q.b q.n f c w h.gok hm h.n1 hi (by omega)).mono ?_
  rintro e w' ⟨he, hm', hE⟩
  have hs : H ≤ w.heap.size := by have := hm.ltg; have := h.lo.1; omega
  have hC' := Chg.of_else hE
  refine ⟨he, ⟨⟨c + 1, by omega, by omega, hm'.congr fun j _ => setF_same f i j⟩, h.wr.chg hC' (fun hk => ?_) (fun b o e hs => ?_), h.rd.chg hC' (fun hk => ?_), hC'.six (fun k hk => by have := h.lo; omega) h.gok, h.wf, h.vf, h.lo, h.ne, h.of, h.n1⟩, hC'.below (fun k hk => by have := h.lo; omega) hs⟩
  · have := h.ne; omega
  · have := h.of b o e; omega
  · have := h.ne; omega
theorem sq_tries {H : Nat} {w : World} {q : Sb} {f : Nat → Int} {C : Nat} {s : Wr} {r : Rd} (h : Sq H w q f C s r) (t : Int) (ht : (r.tr : Int) = t) : Calls Tryd.prog 25 #[.pointer (some ⟨q.R, 0, none⟩)] w fun e w' => e = .returned (.int .i64 t) ∧ w = w' :=
  (tries_any q.R r w _ h.rd).mono fun _ _ hh => ⟨by rw [← ht]; exact hh.1, hh.2.symm⟩
theorem sq_written {H : Nat} {w : World} {q : Sb} {f : Nat → Int} {C : Nat} {s : Wr} {r : Rd} (h : Sq H w q f C s r) (t : Int) (ht : (s.wr : Int) = t) : Calls Tryd.prog 21 #[.pointer (some ⟨q.B, 0, none⟩)] w fun e w' => e = .returned (.int .i64 t) ∧ w = w' :=
  (written_any q.B w _ q.A q.ca s h.wr).mono fun _ _ hh => ⟨by rw [← ht]; exact hh.1, hh.2.symm⟩
theorem sq_got_no {H : Nat} {w : World} {q : Sb} {f : Nat → Int} {C : Nat} {s : Wr} {r : Rd} (h : Sq H w q f C s r) (hp : r.k.ph ≠ 3) : Calls Tryd.prog 20 #[.pointer (some ⟨q.R, 0, none⟩)] w fun e w' => e = .returned (.tuple #[.slice none 0 0, .bool false]) ∧ w = w' :=
  (got_no q.R r w _ h.rd (by omega)).mono fun _ _ hh => ⟨hh.1, hh.2.symm⟩
theorem sq_got_yes {H : Nat} {w : World} {q : Sb} {f : Nat → Int} {C : Nat} {s : Wr} {r : Rd} (h : Sq H w q f C s r) (hp : r.k.ph = 3) : Calls Tryd.prog 20 #[.pointer (some ⟨q.R, 0, none⟩)] w fun e w' => ∃ d, e = .returned (.tuple #[.slice (some ⟨d, 0, none⟩) r.k.n r.k.n, .bool true]) ∧ w'.rowIs d 75 32 (fun i => .int .u32 (r.ws i)) ∧ w.heap.size ≤ d ∧ Sq H w' q f C s r ∧ Below w.heap.size w w' :=
  (got_yes q.R r w (by have := h.rd; rw [hp] at this; exact this)).mono fun _ _ ⟨d, h1, h2, h3, h4⟩ => ⟨d, h1, h2, h3, h.keep h4, h4⟩
theorem Sq.hs {H : Nat} {w : World} {q : Sb} {f : Nat → Int} {C : Nat} {s : Wr} {r : Rd} (h : Sq H w q f C s r) : H ≤ w.heap.size := by
  obtain ⟨c, c0, c1, hm⟩ := h.mem
  have := hm.ltg; have := h.lo.1; omega
end Go.Proofs.YtoaaeamogpdcgaaDoor
