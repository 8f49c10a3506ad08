/-
  The writer, the reader, the words; beside them the document's: what is kept while they do their steps.
-/
import Derived.Test.YtoaaeamogpdcgaaDoorSim
namespace Go.Proofs.YtoaaeamogpdcgaaDoor
open Go.RowKit

/-- The blocks that the steps store into. -/
def T6 (q : Sb) (Bv Bq k : Nat) : Prop := k = q.g ∨ k = q.b ∨ k = q.B ∨ k = q.R ∨ k = Bv ∨ k = Bq
def Box8 (w : World) (b : Nat) (d : Dr) : Prop := w.cell? ⟨b, 0, none⟩ = some (.int .i64 d.at') ∧ w.cell? ⟨b, 1, none⟩ = some (.int .i64 d.n) ∧ w.cell? ⟨b, 2, none⟩ = some (.int .i64 d.next) ∧ w.cell? ⟨b, 3, none⟩ = some (.int .u32 d.cn) ∧ w.cell? ⟨b, 4, none⟩ = some (.slice d.pL d.nL d.cL) ∧ w.cell? ⟨b, 5, none⟩ = some (.bool d.got) ∧ w.cell? ⟨b, 6, none⟩ = some (.bool d.done) ∧ w.cell? ⟨b, 7, none⟩ = some (.int .i64 d.tr)
theorem Box6.same {w w' : World} {b : Nat} {d : Dw} (h : Box6 w b d) (e : w'.heap[b]? = w.heap[b]?) : Box6 w' b d := by
  unfold Box6 at h ⊢
  simp only [World.cell?_of_block (w := w) (w' := w') (a := ⟨b, _, none⟩) e]; exact h
theorem Box8.same {w w' : World} {b : Nat} {d : Dr} (h : Box8 w b d) (e : w'.heap[b]? = w.heap[b]?) : Box8 w' b d := by
  unfold Box8 at h ⊢
  simp only [World.cell?_of_block (w := w) (w' := w') (a := ⟨b, _, none⟩) e]; exact h
theorem Sq.out {S : Nat → Prop} {H : Nat} {w w' : World} {q : Sb} {f : Nat → Int} {C : Nat} {s : Wr} {r : Rd} (h : Sq H w q f C s r) (hC : Chg S w w') (h1 : ¬ S q.g ∧ ¬ S q.b ∧ ¬ S q.B ∧ ¬ S q.R) (hA : Off S q.A) (h6 : ∀ k, S k → 6 ≤ k) : Sq H w' q f C s r := by
  obtain ⟨c, c0, c1, hm⟩ := h.mem
  exact ⟨⟨c, c0, c1, hC.mem hm h1.1 h1.2.1⟩, h.wr.chg hC h1.2.2.1 hA, h.rd.chg hC h1.2.2.2, hC.six h6 h.gok, h.wf, h.vf, h.lo, h.ne, h.of, h.n1⟩
/-- All but the two boxes' contents. -/
structure Core (H : Nat) (w : World) (q : Sb) (Bv Bq : Nat) (at' : Int) (n : Nat) (F : Nat → Ver) (C : Nat) (s : Wr) (f : Nat → Int) (r : Rd) (d : Dw) (s' : Wr) (f' : Nat → Int) (e : Dr) (r' : Rd) (U : Option Addr) : Prop where
  sq : Sq H w q f C s r
  qn : q.n = 40
  vlt : Bv < w.heap.size
  qlt : Bq < w.heap.size
  vfz : ∀ j, w.frozen? ⟨Bv, j, none⟩ = false
  qfz : ∀ j, w.frozen? ⟨Bq, j, none⟩ = false
  ne : (Bv ≠ q.g ∧ Bv ≠ q.b ∧ Bv ≠ q.B ∧ Bv ≠ q.R) ∧ (Bq ≠ q.g ∧ Bq ≠ q.b ∧ Bq ≠ q.B ∧ Bq ≠ q.R) ∧ Bv ≠ Bq
  lo : H ≤ Bv ∧ H ≤ Bq
  ws : WSim at' F s' d
  wn : s'.L = 0 ∨ s'.k.n = n
  ok : DwOk w d (atS at' n) (vS n F) (outS n) (eS n)
  dM : d.M ≤ 1000000
  rs : RSim at' r' e w
  rn : 1 ≤ r'.k.n ∧ r'.k.n ≤ 32
  ar : -1000 ≤ at' ∧ at' ≤ 1000
  us : Us w U 40 f'
  oA : Off (T6 q Bv Bq) q.A
  o1 : Off (T6 q Bv Bq) d.pA
  o2 : Off (T6 q Bv Bq) d.pV
  o3 : Off (T6 q Bv Bq) d.pD
  o4 : Off (T6 q Bv Bq) d.pE
  oL : Off (T6 q Bv Bq) e.pL
  oU : Off (T6 q Bv Bq) U
section
variable {H : Nat} {w w' : World} {q : Sb} {Bv Bq : Nat} {at' : Int} {n : Nat} {F : Nat → Ver} {C : Nat} {s : Wr} {f : Nat → Int} {r : Rd} {d : Dw} {s' : Wr} {f' : Nat → Int} {e : Dr} {r' : Rd} {U : Option Addr}
theorem Core.lt (h : Core H w q Bv Bq at' n F C s f r d s' f' e r' U) {k : Nat} (hk : T6 q Bv Bq k) : k < w.heap.size := by
  obtain ⟨c, _, _, hm⟩ := h.sq.mem
  have h1 := hm.ltg
  have h2 := hm.row.lt
  have h3 := h.sq.wr.k.lt
  have h4 := h.sq.rd.k.lt
  have h5 := h.vlt
  have h6 := h.qlt
  rcases hk with rfl | rfl | rfl | rfl | rfl | rfl <;> assumption
theorem off_new {S : Nat → Prop} {A : Option Addr} {m : Nat} (h : ∀ k, S k → k < m) (hA : ∀ b o, A = some ⟨b, o, none⟩ → m ≤ b) : Off S A := fun b o e hs => by
  have := h b hs
  have := hA b o e
  omega
theorem Core.keep (h : Core H w q Bv Bq at' n F C s f r d s' f' e r' U) (hB : Below w.heap.size w w') : Core H w' q Bv Bq at' n F C s f r d s' f' e r' U :=
  ⟨h.sq.keep hB, h.qn, Nat.lt_of_lt_of_le h.vlt hB.size, Nat.lt_of_lt_of_le h.qlt hB.size, fun j => (hB.frozen (p := ⟨Bv, j, none⟩) h.vlt).trans (h.vfz j), fun j => (hB.frozen (p := ⟨Bq, j, none⟩) h.qlt).trans (h.qfz j), h.ne, h.lo, h.ws, h.wn, h.ok.keep hB, h.dM, h.rs.keep hB, h.rn, h.ar, h.us.keep hB, h.oA, h.o1, h.o2, h.o3, h.o4, h.oL, h.oU⟩
theorem Rd.step_n (m : Nat) (f : Nat → Int) (r : Rd) : (r.step m f).k.n = r.k.n := by
  unfold Rd.step; split
  · rfl
  · split
    · split
      · split <;> rfl
      · exact Wk.pass_n _
      · rfl
    · show r.k.lose.n = _
      unfold Wk.lose; split
      · exact Wk.pass_n _
      · rfl
theorem core_w1 (h : Core H w q Bv Bq at' n F C s f r d s f e r' U) (hdn : d.done = false) (cu : Nat) :
    Calls Tryd.prog 16 #[dwV d, .slice U 40 cu] w fun x w' => ∃ d' U' cu', x = .returned (.tuple #[dwV d', .slice U' 40 cu']) ∧ Core H w' q Bv Bq at' n F C s f r d' (s.step 40) (s.word 40 f) e r' U' ∧ d'.done = decide (3 ≤ (s.step 40).k.ph) ∧ Below w.heap.size w w' := by
  refine (wsim_calls h.ws hdn h.wn h.ok U cu h.us h.dM).mono ?_
  rintro x w' ⟨d', U', cu', rfl, hu, hU, ⟨e1, e2, e3, e4⟩, hws, hok, hM, hd, hB⟩
  have hk := h.keep hB
  refine ⟨d', U', cu', rfl, ⟨hk.sq, hk.qn, hk.vlt, hk.qlt, hk.vfz, hk.qfz, hk.ne, hk.lo, hws, by rw [Wr.step_L, Wr.step_n]; exact h.wn, hok, by rw [hM]; exact h.dM, hk.rs, hk.rn, hk.ar, hu, hk.oA, by rw [e1]; exact h.o1, by rw [e2]; exact h.o2, by rw [e3]; exact h.o3, by rw [e4]; exact h.o4, hk.oL, ?_⟩, hd, hB⟩
  rcases hU with rfl | ⟨G, hG, rfl⟩
  · exact h.oU
  · exact off_new (m := w.heap.size) (fun k hk => h.lt hk) fun b o e => by injection e with e; injection e with e1; omega
theorem Core.set (h : Core H w q Bv Bq at' n F C s f r d s' f' e r' U) (h6 : 6 ≤ H) {B : Nat} (hB : B = Bv ∨ B = Bq) (j : Nat) (u : Value) : Core H (w.setCell ⟨B, j, none⟩ u) q Bv Bq at' n F C s f r d s' f' e r' U := by
  have hC : Chg (fun k => k = B) w (w.setCell ⟨B, j, none⟩ u) := (Chg.refl (S := fun k => k = B) w).set (a := ⟨B, j, none⟩) rfl u
  have hT : T6 q Bv Bq B := by
    rcases hB with rfl | rfl
    · exact .inr (.inr (.inr (.inr (.inl rfl))))
    · exact .inr (.inr (.inr (.inr (.inr rfl))))
  have of : ∀ {A : Option Addr}, Off (T6 q Bv Bq) A → Off (fun k => k = B) A := fun hA b o e hb => hA b o e (by have hb : b = B := hb; rw [hb]; exact hT)
  have hn := h.ne
  have hl := h.lo
  exact ⟨h.sq.out hC ⟨fun x => by (have x : q.g = B := x); omega, fun x => by (have x : q.b = B := x); omega, fun x => by (have x : q.B = B := x); omega, fun x => by (have x : q.R = B := x); omega⟩ (of h.oA) (fun k hk => by (have hk : k = B := hk); omega), h.qn, by simpa using h.vlt, by simpa using h.qlt, fun j => by rw [World.frozen?_setCell]; exact h.vfz j, fun j => by rw [World.frozen?_setCell]; exact h.qfz j, h.ne, h.lo, h.ws, h.wn, h.ok.chg hC (of h.o1) (of h.o2) (of h.o3) (of h.o4), h.dM, h.rs.chg hC (of h.oL), h.rn, h.ar, h.us.chgS hC (of h.oU), h.oA, h.o1, h.o2, h.o3, h.o4, h.oL, h.oU⟩
theorem core_w2 (h : Core H w q Bv Bq at' n F C s f r d (s.step 40) (s.word 40 f) e r' U) (hC : C ≤ 1000000) (x : Bool) (hx : decide (3 ≤ (s.step 40).k.ph) = x) :
    Calls Tryd.prog 17 #[.pointer (some ⟨q.B, 0, none⟩), .pointer (some ⟨q.g, 0, none⟩)] w fun y w' => y = .returned (.bool x) ∧ Core H w' q Bv Bq at' n F (C + 1) (s.step 40) (s.word 40 f) r d (s.step 40) (s.word 40 f) e r' U ∧ w'.heap[Bv]? = w.heap[Bv]? ∧ w'.heap[Bq]? = w.heap[Bq]? ∧ Below H w w' := by
  have hq := h.qn
  refine (sq_write2 h.sq hC x (by rw [hq]; exact hx)).mono ?_
  rintro y w' ⟨rfl, hs, hc⟩
  rw [hq] at hs
  have of : ∀ {A : Option Addr}, Off (T6 q Bv Bq) A → Off (ST q.g q.b q.B) A := fun hA b o e hb => hA b o e (by rcases hb with hb | hb | hb <;> simp [T6, hb])
  have hn := h.ne
  have hl := h.sq.lo
  have nv : ¬ ST q.g q.b q.B Bv := fun hb => by rcases hb with hb | hb | hb <;> omega
  have nq : ¬ ST q.g q.b q.B Bq := fun hb => by rcases hb with hb | hb | hb <;> omega
  refine ⟨rfl, ⟨hs, h.qn, Nat.lt_of_lt_of_le h.vlt hc.size, Nat.lt_of_lt_of_le h.qlt hc.size, fun j => (hc.frozen (a := ⟨Bv, j, none⟩) h.vlt nv).trans (h.vfz j), fun j => (hc.frozen (a := ⟨Bq, j, none⟩) h.qlt nq).trans (h.qfz j), h.ne, h.lo, h.ws, h.wn, h.ok.chg hc (of h.o1) (of h.o2) (of h.o3) (of h.o4), h.dM, h.rs.chg hc (of h.oL), h.rn, h.ar, h.us.chgS hc (of h.oU), h.oA, h.o1, h.o2, h.o3, h.o4, h.oL, h.oU⟩, hc.block _ h.vlt nv, hc.block _ h.qlt nq, hc.below (fun k hk => ?_) h.sq.hs⟩
  rcases hk with hk | hk | hk <;> omega
theorem core_r1 (h : Core H w q Bv Bq at' n F C s f r d s f e r U) (hdn : e.done = false) (ht : r.tr ≤ 1000) (cu : Nat) :
    Calls Tryd.prog 18 #[drV e, .slice U 40 cu] w fun x w' => ∃ e', x = .returned (drV e') ∧ Core H w' q Bv Bq at' n F C s f r d s f e' (r.step 40 f) U ∧ Below w.heap.size w w' := by
  refine (rsim_calls h.rs hdn U cu h.us (by have := h.sq.wf; rw [h.qn] at this; exact this) h.ar h.rn ht).mono ?_
  rintro x w' ⟨e', rfl, hrs, hL, hB⟩
  have hk := h.keep hB
  have hn : (r.step 40 f).k.n = r.k.n := Rd.step_n 40 f r
  refine ⟨e', rfl, ⟨hk.sq, hk.qn, hk.vlt, hk.qlt, hk.vfz, hk.qfz, hk.ne, hk.lo, hk.ws, hk.wn, hk.ok, hk.dM, hrs, by rw [hn]; exact h.rn, hk.ar, hk.us, hk.oA, hk.o1, hk.o2, hk.o3, hk.o4, ?_, hk.oU⟩, hB⟩
  rcases hL with hL | hL
  · rw [hL]; exact h.oL
  · exact off_new (m := w.heap.size) (fun k hk => h.lt hk) hL
theorem core_r2 (h : Core H w q Bv Bq at' n F C s f r d s f e (r.step 40 f) U) (hC : C ≤ 1000000) (ht : r.tr + 1 ≤ 1000000) (x : Bool) (hx : decide (3 ≤ (r.step 40 f).k.ph) = x) :
    Calls Tryd.prog 19 #[.pointer (some ⟨q.R, 0, none⟩), .pointer (some ⟨q.g, 0, none⟩)] w fun y w' => y = .returned (.bool x) ∧ Core H w' q Bv Bq at' n F (C + 1) s f (r.step 40 f) d s f e (r.step 40 f) U ∧ w'.heap[Bv]? = w.heap[Bv]? ∧ w'.heap[Bq]? = w.heap[Bq]? ∧ Below H w w' := by
  have hq := h.qn
  refine (sq_read2 h.sq hC ht x (by rw [hq]; exact hx)).mono ?_
  rintro y w' ⟨rfl, hs, hc⟩
  rw [hq] at hs
  have of : ∀ {A : Option Addr}, Off (T6 q Bv Bq) A → Off (ST q.g q.b q.R) A := fun hA b o e hb => hA b o e (by rcases hb with hb | hb | hb <;> simp [T6, hb])
  have hn := h.ne
  have hl := h.sq.lo
  have nv : ¬ ST q.g q.b q.R Bv := fun hb => by rcases hb with hb | hb | hb <;> omega
  have nq : ¬ ST q.g q.b q.R Bq := fun hb => by rcases hb with hb | hb | hb <;> omega
  refine ⟨rfl, ⟨hs, h.qn, Nat.lt_of_lt_of_le h.vlt hc.size, Nat.lt_of_lt_of_le h.qlt hc.size, fun j => (hc.frozen (a := ⟨Bv, j, none⟩) h.vlt nv).trans (h.vfz j), fun j => (hc.frozen (a := ⟨Bq, j, none⟩) h.qlt nq).trans (h.qfz j), h.ne, h.lo, h.ws, h.wn, h.ok.chg hc (of h.o1) (of h.o2) (of h.o3) (of h.o4), h.dM, h.rs.chg hc (of h.oL), h.rn, h.ar, h.us.chgS hc (of h.oU), h.oA, h.o1, h.o2, h.o3, h.o4, h.oL, h.oU⟩, hc.block _ h.vlt nv, hc.block _ h.qlt nq, hc.below (fun k hk => ?_) h.sq.hs⟩
  rcases hk with hk | hk | hk <;> omega
end
end Go.Proofs.YtoaaeamogpdcgaaDoor
