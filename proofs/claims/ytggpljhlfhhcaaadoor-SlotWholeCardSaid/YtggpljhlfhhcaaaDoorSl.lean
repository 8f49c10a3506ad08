/-
  A memory, a get, and a put: what each step makes of them.
-/
import Derived.Test.YtggpljhlfhhcaaaDoorMsg
namespace Go.Proofs.YtggpljhlfhhcaaaDoor
open Go.RowKit

/-- A memory and a get, in blocks from H on; the memory was used C times at most. -/
structure Sm (H : Nat) (w : World) (g b n K R sz : Nat) (f : Nat → Int) (C : Nat) (r : Rd) : Prop where
  mem : ∃ c : Int, 0 ≤ c ∧ c ≤ C ∧ MemAt w g b n f c
  rd : ReaderAt w R r.k.ph r
  gt : GetAt w K R sz
  gok : GOk w
  wf : Wf n f
  rw : ∀ j, 0 ≤ r.ws j ∧ r.ws j < 4294967296
  lo : H ≤ g ∧ H ≤ b ∧ H ≤ K ∧ H ≤ R ∧ 6 ≤ H
  ne : g ≠ R ∧ b ≠ R ∧ g ≠ K ∧ b ≠ K ∧ R ≠ K
  n1 : n ≤ 4096
/-- A put. -/
structure Pt (w : World) (P B : Nat) (A : Option Addr) (ca : Nat) (s : Wr) : Prop where
  wr : WriterAt w B s.k.ph A ca s
  pt : PutAt w P B
  vf : Wf (s.L * s.k.n) s.V
/-- They lie apart. -/
structure Ap (H g b K R P B : Nat) (A : Option Addr) : Prop where
  lo : H ≤ P ∧ H ≤ B
  ne : g ≠ B ∧ b ≠ B ∧ K ≠ B ∧ R ≠ B ∧ g ≠ P ∧ b ≠ P ∧ K ≠ P ∧ R ≠ P ∧ B ≠ P
  of : ∀ x o, A = some ⟨x, o, none⟩ → x ≠ g ∧ x ≠ b ∧ x ≠ B ∧ x ≠ R
section
variable {H : Nat} {w w' : World} {g b n K R sz P B ca C : Nat} {A : Option Addr} {f : Nat → Int} {s : Wr} {r : Rd}
theorem Sm.keep (h : Sm H w g b n K R sz f C r) (hB : Below w.heap.size w w') : Sm H w' g b n K R sz f C r := by
  obtain ⟨c, c0, c1, hm⟩ := h.mem
  exact ⟨⟨c, c0, c1, hm.keep hB⟩, h.rd.keep hB, h.gt.keep hB, h.gok.keep hB, h.wf, h.rw, h.lo, h.ne, h.n1⟩
theorem Sm.more {C' : Nat} (h : Sm H w g b n K R sz f C r) (hC : C ≤ C') : Sm H w g b n K R sz f C' r := by
  obtain ⟨c, c0, c1, hm⟩ := h.mem
  exact ⟨⟨c, c0, by omega, hm⟩, h.rd, h.gt, h.gok, h.wf, h.rw, h.lo, h.ne, h.n1⟩
theorem Sm.hs (h : Sm H w g b n K R sz f C r) : H ≤ w.heap.size := by
  obtain ⟨c, c0, c1, hm⟩ := h.mem
  have := hm.ltg; have := h.lo.1; omega
theorem Sm.lts (h : Sm H w g b n K R sz f C r) : g < w.heap.size ∧ b < w.heap.size ∧ K < w.heap.size ∧ R < w.heap.size := by
  obtain ⟨c, c0, c1, hm⟩ := h.mem
  exact ⟨hm.ltg, hm.row.lt, h.gt.lt, h.rd.k.lt⟩
theorem Pt.keep (h : Pt w P B A ca s) (hB : Below w.heap.size w w') : Pt w' P B A ca s := ⟨h.wr.keep hB, h.pt.keep hB, h.vf⟩
theorem rd_rw {m : Nat} (hf : Wf m f) (hr : ∀ j, 0 ≤ r.ws j ∧ r.ws j < 4294967296) (j : Nat) : 0 ≤ (r.step m f).ws j ∧ (r.step m f).ws j < 4294967296 := by
  have up : ∀ i x, (0 ≤ x ∧ x < 4294967296) → 0 ≤ upd r.ws i x j ∧ upd r.ws i x j < 4294967296 := fun i x hx => by
    by_cases e : j = i
    · subst e; rw [upd_same]; exact hx
    · rw [upd_other e]; exact hr j
  unfold Rd.step
  split
  · exact hr j
  · split
    next hi =>
      have hi := inM_yes hi
      split
      · split
        · exact hr j
        · exact hr j
      · exact up _ _ (hf _ (by omega))
      · exact hr j
    · show 0 ≤ (if r.k.ph = 1 then upd r.ws r.k.pa 0 else r.ws) j ∧ (if r.k.ph = 1 then upd r.ws r.k.pa 0 else r.ws) j < 4294967296
      split
      · exact up _ _ (by omega)
      · exact hr j
theorem wr_wf {p : Int} (hW : WriterAt w B p A ca s) (hf : Wf n f) (hv : Wf (s.L * s.k.n) s.V) : Wf n (s.word n f) := by
  unfold Wr.word
  split
  · exact hf
  · split
    · split
      · exact wf_upd hf _ _ (hv _ (flat_lt (hW.wl.1 (by omega)) (hW.k.pr.2.2 (by omega)).1))
      · exact wf_upd hf _ _ (inc_rng _)
    · exact hf
theorem sl_write (h : Sm H w g b n K R sz f C r) (p : Pt w P B A ca s) (a : Ap H g b K R P B A) (hC : C ≤ 1000000) (d : Bool) (hd : decide (3 ≤ (s.step n).k.ph) = d) :
    Calls Tryd.prog 16 #[.pointer (some ⟨B, 0, none⟩), .pointer (some ⟨g, 0, none⟩)] w fun e w' => e = .returned (.bool d) ∧ Sm H w' g b n K R sz (s.word n f) (C + 1) r ∧ Pt w' P B A ca (s.step n) ∧ Below H w w' ∧ Chg (ST g b B) w w' := by
  obtain ⟨c, c0, c1, hm⟩ := h.mem
  subst hd
  refine (writer_step B g b n A ca s f c w p.wr a.ne.1 a.ne.2.1 (fun x o e hs => ?_) h.gok hm h.n1 (by omega)).mono ?_
  · have := a.of x o e
    rcases hs with rfl | rfl | rfl
    · exact this.1 rfl
    · exact this.2.1 rfl
    · exact this.2.2.1 rfl
  · rintro e w' ⟨he, ⟨c', h1, h2, hm'⟩, hw, hC'⟩
    have hlo : ∀ k, ST g b B k → H ≤ k := fun k hk => by
      have := h.lo; have := a.lo
      rcases hk with rfl | rfl | rfl <;> omega
    have hs : H ≤ w.heap.size := h.hs
    have ne := h.ne
    have ae := a.ne
    refine ⟨he, ⟨⟨c', by omega, by omega, hm'⟩, h.rd.chg hC' (fun hk => ?_), h.gt.chg hC' (fun hk => ?_), hC'.six (fun k hk => by have := hlo k hk; have := h.lo; omega) h.gok, wr_wf p.wr h.wf p.vf, h.rw, h.lo, h.ne, h.n1⟩, ⟨hw, p.pt.chg hC' (fun hk => ?_), ?_⟩, hC'.below hlo hs, hC'⟩
    · rcases hk with e | e | e <;> omega
    · rcases hk with e | e | e <;> omega
    · rcases hk with e | e | e <;> omega
    · rw [Wr.step_L, Wr.step_V, Wr.step_n]; exact p.vf
theorem sm_read (h : Sm H w g b n K R sz f C r) (hC : C ≤ 1000000) (ht : r.tr + 1 ≤ 1000000) (d : Bool) (hd : decide (3 ≤ (r.step n f).k.ph) = d) :
    Calls Tryd.prog 20 #[.pointer (some ⟨R, 0, none⟩), .pointer (some ⟨g, 0, none⟩)] w fun e w' => e = .returned (.bool d) ∧ Sm H w' g b n K R sz f (C + 1) (r.step n f) ∧ Chg (ST g b R) w w' ∧ Below H w w' := by
  obtain ⟨c, c0, c1, hm⟩ := h.mem
  subst hd
  refine (reader_step R g b n r f c w h.rd h.ne.1 h.ne.2.1 h.gok hm h.n1 (by omega) h.wf ht).mono ?_
  rintro e w' ⟨he, ⟨c', h1, h2, hm'⟩, hr, hC'⟩
  have hlo : ∀ k, ST g b R k → H ≤ k := fun k hk => by
    have := h.lo
    rcases hk with rfl | rfl | rfl <;> omega
  have hs : H ≤ w.heap.size := h.hs
  have ne := h.ne
  refine ⟨he, ⟨⟨c', by omega, by omega, hm'⟩, hr, h.gt.chg hC' (fun hk => ?_), hC'.six (fun k hk => by have := hlo k hk; have := h.lo; omega) h.gok, h.wf, rd_rw h.wf h.rw, h.lo, h.ne, h.n1⟩, hC', hC'.below hlo hs⟩
  rcases hk with e | e | e <;> omega
theorem sl_read (h : Sm H w g b n K R sz f C r) (p : Pt w P B A ca s) (a : Ap H g b K R P B A) (hC : C ≤ 1000000) (ht : r.tr + 1 ≤ 1000000) (d : Bool) (hd : decide (3 ≤ (r.step n f).k.ph) = d) :
    Calls Tryd.prog 20 #[.pointer (some ⟨R, 0, none⟩), .pointer (some ⟨g, 0, none⟩)] w fun e w' => e = .returned (.bool d) ∧ Sm H w' g b n K R sz f (C + 1) (r.step n f) ∧ Pt w' P B A ca s ∧ Below H w w' ∧ Chg (ST g b R) w w' :=
  (sm_read h hC ht d hd).mono fun e w' ⟨h1, h2, h3, h4⟩ => by
    have ae := a.ne
    refine ⟨h1, h2, ⟨p.wr.chg h3 (fun hk => ?_) (fun x o e hs => ?_), p.pt.chg h3 (fun hk => ?_), p.vf⟩, h4, h3⟩
    · rcases hk with e | e | e <;> omega
    · have := a.of x o e
      rcases hs with rfl | rfl | rfl
      · exact this.1 rfl
      · exact this.2.1 rfl
      · exact this.2.2.2 rfl
    · rcases hk with e | e | e <;> omega
theorem OwnU.chg {S : Nat → Prop} {d : Nat} (h : OwnU w d n f) (hC : Chg S w w') (hS : ¬ S d) : OwnU w' d n f := by
  obtain ⟨c, h1, h2⟩ := h
  exact ⟨c, by rw [hC.block d (Array.getElem?_eq_some_iff.1 h1).1 hS]; exact h1, h2⟩
theorem sl_written (p : Pt w P B A ca s) (t : Int) (ht : (s.wr : Int) = t) : Calls Tryd.prog 17 #[.pointer (some ⟨B, 0, none⟩)] w fun e w' => e = .returned (.int .i64 t) ∧ w = w' :=
  (written_any B w _ A ca s p.wr).mono fun _ _ hh => ⟨by rw [← ht]; exact hh.1, hh.2.symm⟩
theorem sm_tries (h : Sm H w g b n K R sz f C r) (t : Int) (ht : (r.tr : Int) = t) : Calls Tryd.prog 25 #[.pointer (some ⟨R, 0, none⟩)] w fun e w' => e = .returned (.int .i64 t) ∧ w = w' :=
  (tries_any R r w _ h.rd).mono fun _ _ hh => ⟨by rw [← ht]; exact hh.1, hh.2.symm⟩
theorem sm_message_no (h : Sm H w g b n K R sz f C r) (hp : r.k.ph ≠ 3) : Calls Tryd.prog 23 #[.pointer (some ⟨K, 0, none⟩)] w fun e w' => e = .returned (.tuple #[.string ⟨#[]⟩, .int .u32 0, .bool false]) ∧ w = w' :=
  message_no K R sz _ r w h.gt h.rd (by omega)
theorem sm_message_yes (h : Sm H w g b n K R sz f C r) (hp : r.k.ph = 3) (hn : r.k.n = 2 + need sz) (h1 : 1 ≤ sz) (h2 : sz ≤ 32) :
    Calls Tryd.prog 23 #[.pointer (some ⟨K, 0, none⟩)] w fun e w' => e = .returned (.tuple #[.string (textN (fun q => r.ws (2 + q)) (min (r.ws 1) sz).toNat), .int .u32 (r.ws 0), .bool true]) ∧ Below w.heap.size w w' :=
  message_yes K R sz r w h.gt (by have := h.rd; rw [hp] at this; exact this) hn h1 h2 h.rw
/-- A new memory and a new get. -/
theorem sm_of {R' : Nat} (hM : MemAt w g b n f 0) (hR : ReaderAt w R' r.k.ph r) (hK : GetAt w K R' sz) (hG : GOk w) (hf : Wf n f) (hr : ∀ j, 0 ≤ r.ws j ∧ r.ws j < 4294967296) (h6 : 6 ≤ H) (h1 : H ≤ g ∧ H ≤ b ∧ g < R' ∧ b < R' ∧ R' < K) (hn : n ≤ 4096) : Sm H w g b n K R' sz f 0 r :=
  ⟨⟨0, Int.le_refl _, Int.le_refl _, hM⟩, hR, hK, hG, hf, hr, by omega, by omega, hn⟩
/-- A new get in its place. -/
theorem Sm.anew (h : Sm H w g b n K R sz f C r) (hB : Below w.heap.size w w') {R' K' sz' : Nat} {r' : Rd} (hR : ReaderAt w' R' r'.k.ph r') (hK : GetAt w' K' R' sz') (hr : ∀ j, 0 ≤ r'.ws j ∧ r'.ws j < 4294967296) (h1 : w.heap.size ≤ R' ∧ R' < K') : Sm H w' g b n K' R' sz' f C r' := by
  obtain ⟨c, c0, c1, hm⟩ := h.mem
  have := hm.ltg
  have := hm.row.lt
  have := h.lo
  exact ⟨⟨c, c0, c1, hm.keep hB⟩, hR, hK, h.gok.keep hB, h.wf, hr, by omega, by omega, h.n1⟩
theorem Ap.anew (a : Ap H g b K R P B A) (p : Pt w P B A ca s) (hA : ∀ x o, A = some ⟨x, o, none⟩ → x < w.heap.size) {R' K' : Nat} (h1 : w.heap.size ≤ R' ∧ R' < K') : Ap H g b K' R' P B A := by
  have ae := a.ne
  have e1 := p.pt.lt
  have e2 := p.wr.k.lt
  exact ⟨a.lo, by omega, fun x o e => by have := a.of x o e; have := hA x o e; omega⟩
end
end Go.Proofs.YtggpljhlfhhcaaaDoor
