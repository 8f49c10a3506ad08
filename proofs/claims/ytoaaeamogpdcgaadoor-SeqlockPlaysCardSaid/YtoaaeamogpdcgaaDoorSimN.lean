/-
  A new writer, beside the document's; the first words.
-/
import Derived.Test.YtoaaeamogpdcgaaDoorSimW
namespace Go.Proofs.YtoaaeamogpdcgaaDoor
open Go.RowKit

/-- What a new writer is. -/
def NwS (at' : Int) (L : Nat) (F : Nat → Ver) (w : World) (e : Ending) (w' : World) : Prop :=
  Below w.heap.size w w' ∧ (((∀ i, i < L → okV F i) ∧ ∃ (B : Nat) (A' : Option Addr) (ca' : Nat) (s : Wr), e = .returned (.tuple #[.pointer (some ⟨B, 0, none⟩), .int .i64 0]) ∧ w.heap.size ≤ B ∧ B < w'.heap.size ∧ WriterAt w' B (s.k.ph : Nat) A' ca' s ∧ (∀ b o, A' = some ⟨b, o, none⟩ → w.heap.size ≤ b ∧ b < B) ∧ Wf (s.L * s.k.n) s.V ∧ (∀ d : Dw, d.M = L * ((F 0).n + 2) → d.did = 0 → d.done = false → WSim at' F s d) ∧ (s.L = 0 ∨ s.k.n = (F 0).n)) ∨
    ((∃ i, i < L ∧ ¬ okV F i) ∧ e = .returned (.tuple #[.pointer none, .int .i64 100])))
theorem neww_sim (at' : Int) (A : Option Addr) (L ca : Nat) (F : Nat → Ver) (w : World) (hV : VersN w.heap.size w A L F) (hf : FewV L F) (hwf : ∀ i, i < L → Wf (F i).n (F i).v) (ha : -1000 ≤ at' ∧ at' ≤ 1000) :
    Calls Tryd.prog 11 #[.int .i64 at', .slice A L ca] w fun e w' => NwS at' L F w e w' := by
  by_cases hL : L = 0
  · subst hL
    refine (neww_nil at' A ca (flatV 0 F) w).mono ?_
    rintro e w' ⟨rfl, hW, hB, hs⟩
    exact ⟨hB, .inl ⟨fun i hi => absurd hi (by omega), w.heap.size, none, 0, wrN (flatV 0 F), rfl, Nat.le_refl _, by omega, hW, fun b o e => (by cases e), fun i hi => absurd hi (by show ¬ i < 0 * 0; omega), fun d hM h0 h1 => wsimN at' F d (by rw [hM, Nat.zero_mul]) h0 h1, .inl rfl⟩⟩
  · have hm : (∀ i, i < L → okV F i) → L * (F 0).n ≤ 2000000 := fun h => by
      have h1 : L * (F 0).n ≤ 10 * 50 := Nat.mul_le_mul hf.1 (hf.2 0 (by omega))
      omega
    refine (neww_any at' A L ca F w hV (by omega) hm (by have := hf.1; omega) ha).mono ?_
    rintro e w' ⟨hB, h | h⟩
    · obtain ⟨hok, B, G, cap, rfl, hB1, hG1, hG2, hB2, hW⟩ := h
      refine ⟨hB, .inl ⟨hok, B, some ⟨G, 0, none⟩, cap, _, rfl, hB1, hB2, hW, fun b o e => by (injection e with e; injection e with e1; omega), ?_, fun d hM h0 h1 => wsim0 at' (F 0).n L F d (hok 0 (by omega)).1.1 (by omega) hM h0 h1, .inr rfl⟩⟩
      exact flat_wf (hok 0 (by omega)).1.1 fun i hi => by have := hwf i hi; rw [(hok i hi).2] at this; exact this
    · exact ⟨hB, .inr h⟩
/-- A word is stored at first. -/
theorem sq_store2 {H : Nat} {w : World} {q : Sb} {f : Nat → Int} {C : Nat} {s : Wr} {r : Rd} (h : Sq H w q f C s r) (hC : C ≤ 1000000) (i : Nat) (a v : Int) (ha : a = i) (hi : i < q.n) (hv : 0 ≤ v ∧ v < 4294967296) :
    Calls Tryd.prog 15 #[.pointer (some ⟨q.g, 0, none⟩), .int .i64 a, .int .u32 v] w fun e w' => e = .returned (.int .i64 0) ∧ Sq H w' q (upd f i v) (C + 1) s r ∧ Chg (fun k => k = q.g ∨ k = q.b) w w' := by
  obtain ⟨c, c0, c1, hm⟩ := h.mem
  subst ha
  refine (store_yes v i q.g q.b q.n f c w h.gok hm h.n1 hi (by omega)).mono ?_
  rintro e w' ⟨he, hm', hE⟩
  have hs : H ≤ w.heap.size := by have := hm.ltg; have := h.lo.1; omega
  have hC' := Chg.of_else hE
  refine ⟨he, ⟨⟨c + 1, by omega, by omega, hm'⟩, h.wr.chg hC' (fun hk => ?_) (fun b o e hs => ?_), h.rd.chg hC' (fun hk => ?_), hC'.six (fun k hk => by have := h.lo; omega) h.gok, wf_upd h.wf i v hv, h.vf, h.lo, h.ne, h.of, h.n1⟩, hC'⟩
  · have := h.ne; omega
  · have := h.of b o e; omega
  · have := h.ne; omega
/-- Forty new words. -/
theorem us_made (w : World) (n : Nat) : Us (w.alloc (.cells (madeCells #[.int .u32 0] n) 22)) (some ⟨w.heap.size, 0, none⟩) n (fun _ => 0) := fun i hi => by
  refine ⟨w.heap.size, 0, rfl, ?_⟩
  rw [Nat.zero_add]
  refine al_new _ _ _ i _ rfl ?_
  rw [Array.getElem?_eq_getElem (by rw [size_madeCells]; exact hi)]
  simp [madeCells, Nat.mod_one]
theorem dw_rows2 {at' : Int} {n : Nat} {F : Nat → Ver} {w : World} {Ba M : Nat} {a v d e : Value} (h : Rows4 at' n F w Ba M M M M a v d e) :
    ∃ pA cA pV cV pD cD pE cE, a = .slice pA M cA ∧ v = .slice pV M cV ∧ d = .slice pD M cD ∧ e = .slice pE M cE ∧ DwOk w ⟨pA, cA, pV, cV, pD, cD, pE, cE, M, 0, false⟩ (atS at' n) (vS n F) (outS n) (eS n) ∧ (∀ b o, pA = some ⟨b, o, none⟩ → Ba + 1 ≤ b ∧ b < w.heap.size) ∧ (∀ b o, pV = some ⟨b, o, none⟩ → Ba + 1 ≤ b ∧ b < w.heap.size) ∧ (∀ b o, pD = some ⟨b, o, none⟩ → Ba + 1 ≤ b ∧ b < w.heap.size) ∧ (∀ b o, pE = some ⟨b, o, none⟩ → Ba + 1 ≤ b ∧ b < w.heap.size) := by
  obtain ⟨pA, cA, rfl⟩ := own_form4 h.ra
  obtain ⟨pV, cV, rfl⟩ := own_form4 h.rv
  obtain ⟨pD, cD, rfl⟩ := own_form4 h.rd
  obtain ⟨pE, cE, rfl⟩ := own_form4 h.re
  exact ⟨pA, cA, pV, cV, pD, cD, pE, cE, rfl, rfl, rfl, rfl, ⟨row_at h.ra, row_at h.rv, row_at h.rd, row_at h.re⟩, fun b o e => own_blk_lt h.ra (by rw [e]; rfl), fun b o e => own_blk_lt h.rv (by rw [e]; rfl), fun b o e => own_blk_lt h.rd (by rw [e]; rfl), fun b o e => own_blk_lt h.re (by rw [e]; rfl)⟩
/-- Where all begins. -/
theorem core_start {H : Nat} {w : World} {q : Sb} {Bv : Nat} {at' : Int} {n nn : Nat} {F : Nat → Ver} {C : Nat} {s : Wr} {f : Nat → Int} {d : Dw} {U : Option Addr} (hS : Sq H w q f C s (rd0 at' nn)) (hq : q.n = 40) (hv : Box6 w Bv d) (hvf : ∀ j, w.frozen? ⟨Bv, j, none⟩ = false) (hne : Bv ≠ q.g ∧ Bv ≠ q.b ∧ Bv ≠ q.B ∧ Bv ≠ q.R) (hlo : H ≤ Bv)
    (hws : WSim at' F s d) (hwn : s.L = 0 ∨ s.k.n = n) (hok : DwOk w d (atS at' n) (vS n F) (outS n) (eS n)) (hM : d.M ≤ 1000000) (h1 : 1 ≤ nn ∧ nn ≤ 32) (ha : -1000 ≤ at' ∧ at' ≤ 1000) (hU : Us w U 40 f)
    (ho : ∀ A, A = q.A ∨ A = d.pA ∨ A = d.pV ∨ A = d.pD ∨ A = d.pE ∨ A = U → ∀ b o, A = some ⟨b, o, none⟩ → b < w.heap.size ∧ b ≠ q.g ∧ b ≠ q.b ∧ b ≠ q.B ∧ b ≠ q.R ∧ b ≠ Bv) (c : Array Value) (hc : c = #[.int .i64 at', .int .i64 nn, .int .i64 0, .int .u32 0, .slice none 0 0, .bool false, .bool false, .int .i64 0]) :
    Core H (w.alloc (.cells c 49)) q Bv w.heap.size at' n F C s f (rd0 at' nn) d s f ⟨at', nn, 0, 0, none, 0, 0, false, false, 0⟩ (rd0 at' nn) U ∧ Box6 (w.alloc (.cells c 49)) Bv d ∧ Box8 (w.alloc (.cells c 49)) w.heap.size ⟨at', nn, 0, 0, none, 0, 0, false, false, 0⟩ := by
  subst hc
  obtain ⟨W, hW⟩ : ∃ W, W = w.alloc (.cells #[.int .i64 at', .int .i64 nn, .int .i64 0, .int .u32 0, .slice none 0 0, .bool false, .bool false, .int .i64 0] 49) := ⟨_, rfl⟩
  have hB : Below w.heap.size w W := by rw [hW]; exact (Below.refl _ _).alloc (Nat.le_refl _) _
  have hs : W.heap.size = w.heap.size + 1 := by rw [hW]; simp
  have hb8 : Box8 W w.heap.size ⟨at', nn, 0, 0, none, 0, 0, false, false, 0⟩ := by
    rw [hW]
    exact ⟨al_new _ _ _ 0 _ rfl rfl, al_new _ _ _ 1 _ rfl rfl, al_new _ _ _ 2 _ rfl rfl, al_new _ _ _ 3 _ rfl rfl, al_new _ _ _ 4 _ rfl rfl, al_new _ _ _ 5 _ rfl rfl, al_new _ _ _ 6 _ rfl rfl, al_new _ _ _ 7 _ rfl rfl⟩
  have hqf : ∀ j, W.frozen? ⟨w.heap.size, j, none⟩ = false := fun j => by rw [hW]; exact frozen_at _ _ _ j _ rfl
  have hvl : Bv < w.heap.size := cell_lt hv.1
  obtain ⟨c, _, _, hm⟩ := hS.mem
  have l1 := hm.ltg
  have l2 := hm.row.lt
  have l3 := hS.wr.k.lt
  have l4 := hS.rd.k.lt
  have l5 := hS.hs
  rw [← hW]
  have off : ∀ A, A = q.A ∨ A = d.pA ∨ A = d.pV ∨ A = d.pD ∨ A = d.pE ∨ A = U → Off (T6 q Bv w.heap.size) A := fun A hA b o e hb => by
    have h := ho A hA b o e
    rcases hb with hb | hb | hb | hb | hb | hb <;> omega
  exact ⟨⟨hS.keep hB, hq, by omega, by omega, fun j => (hB.frozen (p := ⟨Bv, j, none⟩) hvl).trans (hvf j), hqf, ⟨hne, by omega, by omega⟩, ⟨hlo, l5⟩, hws, hwn, hok.keep hB, hM, rsim0 at' nn W h1.1, h1, ha, hU.keep hB, off _ (.inl rfl), off _ (.inr (.inl rfl)), off _ (.inr (.inr (.inl rfl))), off _ (.inr (.inr (.inr (.inl rfl)))), off _ (.inr (.inr (.inr (.inr (.inl rfl))))), fun b o e => (by cases e), off _ (.inr (.inr (.inr (.inr (.inr rfl)))))⟩, hv.same (hB.block _ hvl), hb8⟩
theorem Core.more {H : Nat} {w : World} {q : Sb} {Bv Bq : Nat} {at' : Int} {n : Nat} {F : Nat → Ver} {C C' : Nat} {s : Wr} {f : Nat → Int} {r : Rd} {d : Dw} {s' : Wr} {f' : Nat → Int} {e : Dr} {r' : Rd} {U : Option Addr} (h : Core H w q Bv Bq at' n F C s f r d s' f' e r' U) (hC : C ≤ C') : Core H w q Bv Bq at' n F C' s f r d s' f' e r' U :=
  ⟨h.sq.more hC, h.qn, h.vlt, h.qlt, h.vfz, h.qfz, h.ne, h.lo, h.ws, h.wn, h.ok, h.dM, h.rs, h.rn, h.ar, h.us, h.oA, h.o1, h.o2, h.o3, h.o4, h.oL, h.oU⟩
/-- What holds ahead of each pick. -/
def PRel (np H : Nat) (q : Sb) (Bv Bq : Nat) (at' : Int) (n : Nat) (F : Nat → Ver) (w : World) (lv i : Value) (wr : World) : Prop :=
  ∃ (k : Nat) (s : Wr) (f : Nat → Int) (r : Rd) (d : Dw) (e : Dr) (U : Option Addr) (cu : Nat), k ≤ np ∧ k ≤ 200 ∧ lv = .slice U 40 cu ∧ i = .int .i64 k ∧ Core H wr q Bv Bq at' n F (k + 1) s f r d s f e r U ∧ Box6 wr Bv d ∧ Box8 wr Bq e ∧ r.tr ≤ k ∧ Below w.heap.size w wr
end Go.Proofs.YtoaaeamogpdcgaaDoor
