/-
  A machine of takers: picks, who is done, how many aren't.
-/
import Derived.Test.YtcjhbmkpfclmfaaDoorMach
namespace Go.Proofs.YtcjhbmkpfclmfaaDoor
open Go.RowKit

/-- A taker as an interface value. -/
abbrev tv (B : Nat) : Value := .iface 37 (.pointer (some ⟨B, 0, none⟩))
/-- Where a machine lies. -/
structure Mc where
  X : Nat
  g : Nat
  b : Nat
  n : Nat
  A : Option Addr
  TB : Nat
  N : Nat
  cap : Nat
  D : Nat
  B : Nat → Nat
/-- Its blocks. -/
def Mc.own (m : Mc) (k : Nat) : Prop := k = m.g ∨ k = m.b ∨ k = m.D ∨ k = m.X ∨ k = m.TB ∨ ∃ i, i < m.N ∧ k = m.B i
/-- They are apart. -/
structure Mc.Ok (m : Mc) : Prop where
  n1 : m.n ≤ 4096
  N1 : m.N ≤ 1000
  gB : ∀ i, i < m.N → m.g < m.B i ∧ m.b < m.B i ∧ 6 ≤ m.B i
  sep : ∀ i j, i < m.N → j < m.N → i ≠ j → m.B i ≠ m.B j
  top : ∀ i, i < m.N → m.B i < m.X ∧ m.B i < m.TB ∧ m.B i < m.D
  gX : m.g < m.X ∧ m.g < m.TB ∧ m.g < m.D
  bX : m.b < m.X ∧ m.b < m.TB ∧ m.b < m.D
/-- A machine in memory, with its takers and words. -/
structure Sys (w : World) (m : Mc) (s : Sy) (c : Int) : Prop where
  ok : m.Ok
  mem : MemAt w m.g m.b m.n s.f c
  mach : MachAt w m.X m.g m.A m.TB m.N m.cap m.D (fun i => tv (m.B i)) (fun i => (s.l i).done)
  tsk : ∀ i, i < m.N → TakerAt w (m.B i) (s.l i)
  gok : GOk w
  lo : 6 ≤ m.g ∧ 6 ≤ m.b ∧ 6 ≤ m.D ∧ 6 ≤ m.X ∧ 6 ≤ m.TB
  lt : m.X < w.heap.size ∧ m.TB < w.heap.size
theorem Mc.own_ge {m : Mc} (h : m.Ok) (hl : 6 ≤ m.g ∧ 6 ≤ m.b ∧ 6 ≤ m.D ∧ 6 ≤ m.X ∧ 6 ≤ m.TB) : ∀ k, m.own k → 6 ≤ k := fun k hk => by
  rcases hk with e | e | e | e | e | ⟨i, hi, h1⟩
  · omega
  · omega
  · omega
  · omega
  · omega
  · have := (h.gB i hi).2.2; omega
/-- What happens elsewhere leaves the machine as it is. -/
theorem Sys.else {w w' : World} {m : Mc} {s : Sy} {c : Int} (h : Sys w m s c) {S : Nat → Prop} (hC : Chg S w w') (hS : ∀ k, S k → ¬ m.own k) (hG : GOk w') : Sys w' m s c := by
  have hno : ∀ k, m.own k → ¬ S k := fun k hk hs => hS k hs hk
  refine ⟨h.ok, h.mem.same (hC.block _ h.mem.ltg (hno _ (.inl rfl))) (hC.block _ h.mem.row.lt (hno _ (.inr (.inl rfl)))), ?_, fun i hi => (h.tsk i hi).same (hC.block _ (h.tsk i hi).lt (hno _ (.inr (.inr (.inr (.inr (.inr ⟨i, hi, rfl⟩))))))), hG, h.lo, ?_⟩
  · refine ⟨hC.cell h.mach.x0 (hno _ (.inr (.inr (.inr (.inl rfl))))), hC.cell h.mach.x1 (hno _ (.inr (.inr (.inr (.inl rfl))))), hC.cell h.mach.x2 (hno _ (.inr (.inr (.inr (.inl rfl))))), fun i hi => ⟨(h.mach.tk i hi).1, hC.cell (h.mach.tk i hi).2 (hno _ (.inr (.inr (.inr (.inr (.inl rfl))))))⟩, h.mach.dn.of_block (hC.block _ h.mach.dn.lt (hno _ (.inr (.inr (.inl rfl))))), h.mach.xd, h.mach.td⟩
  · have := hC.size
    exact ⟨by have := h.lt.1; omega, by have := h.lt.2; omega⟩
theorem Sys.keep {w w' : World} {m : Mc} {s : Sy} {c : Int} (h : Sys w m s c) (hB : Below w.heap.size w w') : Sys w' m s c :=
  h.else (S := fun _ => False) (Chg.of_below hB) (fun _ h => h.elim) (h.gok.keep hB)
theorem Sys.drew {w : World} {m : Mc} {s : Sy} {c : Int} (h : Sys w m s c) : Sys w.drew m s c := h.keep ((Below.refl _ _).drew)
theorem Sys.sizeD {w : World} {m : Mc} {s : Sy} {c : Int} (h : Sys w m s c) : m.D < w.heap.size := h.mach.dn.lt
/-- Its blocks are there. -/
theorem Sys.own_lt {w : World} {m : Mc} {s : Sy} {c : Int} (h : Sys w m s c) : ∀ k, m.own k → k < w.heap.size := fun k hk => by
  have h1 := h.lt
  have h2 := h.sizeD
  have h3 := h.mem.ltg
  have h4 := h.mem.row.lt
  rcases hk with e | e | e | e | e | ⟨i, hi, e⟩
  · omega
  · omega
  · omega
  · omega
  · omega
  · have := h.ok.top i hi; omega
/-- A use of the memory. -/
theorem Sys.use {w w' : World} {m : Mc} {s : Sy} {c c' : Int} {f' : Nat → Int} (h : Sys w m s c) (hM : MemAt w' m.g m.b m.n f' c') (hE : Else m.g m.b w w') : Sys w' m ⟨s.l, f'⟩ c' := by
  have hgX := h.ok.gX
  have hbX := h.ok.bX
  have hs := hE.size
  refine ⟨h.ok, hM, h.mach.same (hE.block _ h.lt.1 (by omega) (by omega)) (hE.block _ h.lt.2 (by omega) (by omega)) (hE.block _ h.sizeD (by omega) (by omega)), fun i hi => ?_, ?_, h.lo, ?_⟩
  · have := h.ok.gB i hi
    exact (h.tsk i hi).same (hE.block _ (h.tsk i hi).lt (by omega) (by omega))
  · exact ((Chg.of_else hE).mono (S' := fun k => k = m.g ∨ k = m.b) fun _ hk => hk).six (fun k hk => by have := h.lo; omega) h.gok
  · have := h.lt; exact ⟨by omega, by omega⟩
/-- What a call leaves of the machine. -/
def StepS (m : Mc) (s' : Sy) (c d : Int) (w w' : World) : Prop := ∃ c', c ≤ c' ∧ c' ≤ c + d ∧ Sys w' m s' c' ∧ Chg m.own w w'
theorem StepS.refl {m : Mc} {s : Sy} {c d : Int} {w : World} (h : Sys w m s c) (hd : 0 ≤ d) : StepS m s c d w w := ⟨c, Int.le_refl _, by omega, h, Chg.refl _⟩
theorem StepS.trans {m : Mc} {s' : Sy} {c c1 d d' : Int} {w w1 w2 : World} (h1 : c ≤ c1) (h2 : c1 ≤ c + d) (hC : Chg m.own w w1) (h : StepS m s' c1 d' w1 w2) : StepS m s' c (d + d') w w2 := by
  obtain ⟨c2, q1, q2, q3, q4⟩ := h
  exact ⟨c2, by omega, by omega, q3, hC.trans q4⟩
theorem method13 (a : Addr) (w : World) : (method 204 37 (.pointer (some a)) "Step").run Tryd.prog w = .ok (13, .pointer (some a)) w := by kernel_rfl
theorem enters13 : Enters 13 := enters_of Tryd.func13 (by kernel_rfl) rfl
theorem drew_chg {S : Nat → Prop} {w w' : World} (h : Chg S w.drew w') : Chg S w w' := ⟨h.os, h.tape, h.output, h.size, h.block⟩

set_option maxHeartbeats 1000000 in
theorem pick_at (m : Mc) (s : Sy) (c : Int) (i : Nat) (w : World) (h : Sys w m s c) (hi : i < m.N) (hc : 0 ≤ c ∧ c ≤ 1000000) :
    Calls Tryd.prog 19 #[.pointer (some ⟨m.X, 0, none⟩), .int .i64 i] w fun e w' => e = .returned (.int .i64 (if (s.l i).done then 91 else 0)) ∧ StepS m (s.pick m.n i) c 1 w w' := by
  have hp : (fun i => tv (m.B i)) i = pv 37 ⟨m.B i, 0, none⟩ := rfl
  cases hd : (s.l i).done
  · have hT := h.tsk i hi
    obtain ⟨hgB, hbB, h6⟩ := h.ok.gB i hi
    have hlt := hT.lt
    have hS := step_any (m.B i) m.g m.b m.n (s.l i) s.f c w.drew hd hT.drew (by omega) (by omega) h.gok.drew h.mem.drew h.ok.n1 hc
    have hST : ∀ k, ST m.g m.b (m.B i) k → m.own k := fun k hk => by
      rcases hk with e | e | e
      · exact .inl e
      · exact .inr (.inl e)
      · exact .inr (.inr (.inr (.inr (.inr ⟨i, hi, e⟩))))
    have htop := h.ok.top i hi
    have hgX := h.ok.gX
    have hbX := h.ok.bX
    have hSX : ¬ ST m.g m.b (m.B i) m.X := by unfold ST; omega
    have hSTB : ¬ ST m.g m.b (m.B i) m.TB := by unfold ST; omega
    have hSD : ¬ ST m.g m.b (m.B i) m.D := by unfold ST; omega
    have hMa : ∀ {w'}, Chg (ST m.g m.b (m.B i)) w.drew w' → MachAt w' m.X m.g m.A m.TB m.N m.cap m.D (fun i => tv (m.B i)) (fun i => (s.l i).done) := fun {w'} hC =>
      h.mach.drew.same (hC.block _ h.lt.1 hSX) (hC.block _ h.lt.2 hSTB) (hC.block _ h.sizeD hSD)
    refine (pick_do i 37 13 _ ((s.l i).next m.n (s.f (s.l i).wh.toNat)).done
      (fun w' => StepP m.g m.b m.n (m.B i) (s.l i) s.f c w.drew (.returned (.bool ((s.l i).next m.n (s.f (s.l i).wh.toNat)).done)) w') w h.mach h.ok.N1 hi hp hd (method13 _) enters13
      (fun w' hP => hMa hP.2.2.2)
      (hS.mono fun e w' hP => ⟨hP.1, by unfold StepP at hP ⊢; exact ⟨rfl, hP.2⟩⟩)).mono ?_
    rintro e w' ⟨rfl, w1, ⟨_, ⟨c', hc1, hc2, hM1⟩, hT1, hC1⟩, hw⟩
    refine ⟨by simp, c', hc1, hc2, ?_⟩
    have hma1 := hMa hC1
    have hG1 : GOk w1 := hC1.six (fun k hk => (Mc.own_ge h.ok h.lo) k (hST k hk)) h.gok.drew
    have hpick : s.pick m.n i = { l := upd s.l i ((s.l i).next m.n (s.f (s.l i).wh.toNat)), f := upd s.f (s.l i).wh.toNat ((s.l i).word m.n (s.f (s.l i).wh.toNat)) } := by
      unfold Sy.pick; rw [if_neg (by simp [hd])]
    rw [hpick]
    have hs1 : w.heap.size ≤ w1.heap.size := hC1.size
    -- the world behind the machine's own store
    have hblk : ∀ k, k ≠ m.D → w'.heap[k]? = w1.heap[k]? := fun k hk => by
      rw [hw]
      split
      · exact Below.heap_setCell _ _ _ _ hk
      · rfl
    have hsz : w'.heap.size = w1.heap.size := by
      rw [hw]
      split
      · simp
      · rfl
    refine ⟨⟨h.ok, ?_, ?_, ?_, ?_, h.lo, ?_⟩, ?_⟩
    · exact hM1.same (hblk _ (by omega)) (hblk _ (by omega))
    · rw [hw]
      cases hr : ((s.l i).next m.n (s.f (s.l i).wh.toNat)).done
      · refine hma1.congr fun j hj => ?_
        show (s.l j).done = (upd s.l i _ j).done
        by_cases e : j = i
        · subst e; rw [upd_same, hr, hd]
        · rw [upd_other e]
      · refine (hma1.set i).congr fun j hj => ?_
        show upd (fun i => (s.l i).done) i true j = (upd s.l i _ j).done
        by_cases e : j = i
        · subst e; rw [upd_same, upd_same, hr]
        · rw [upd_other e, upd_other e]
    · intro j hj
      have htj := h.ok.top j hj
      show TakerAt w' (m.B j) (upd s.l i _ j)
      by_cases e : j = i
      · subst e
        rw [upd_same]
        exact hT1.same (hblk _ (by omega))
      · rw [upd_other e]
        have hsep := h.ok.sep i j hi hj (fun x => e x.symm)
        have hgj := h.ok.gB j hj
        refine (h.tsk j hj).same ?_
        rw [hblk _ (by omega)]
        exact hC1.block _ (h.tsk j hj).lt (by unfold ST; omega)
    · intro K hK
      refine (hG1 K hK).same (hblk _ ?_)
      have h5 : gK K ≤ 5 := by
        match K, hK with
        | 0, _ => decide
        | 1, _ => decide
        | 2, _ => decide
        | 3, _ => decide
        | 4, _ => decide
        | 5, _ => decide
      have := h.lo
      omega
    · have := h.lt
      exact ⟨by omega, by omega⟩
    · refine (drew_chg (hC1.mono hST)).trans ?_
      rw [hw]
      split
      · exact (Chg.refl _).set (a := ⟨m.D, i, none⟩) (.inr (.inr (.inl rfl))) _
      · exact Chg.refl _
  · refine (pick_was i 37 _ w h.mach h.ok.N1 hi hp hd).mono ?_
    rintro e w' ⟨rfl, rfl⟩
    exact ⟨by simp, by rw [pick_done hd]; exact StepS.refl h (by omega)⟩
theorem pick_any (m : Mc) (s : Sy) (c : Int) (i : Int) (w : World) (h : Sys w m s c) (hc : 0 ≤ c ∧ c ≤ 1000000) :
    Calls Tryd.prog 19 #[.pointer (some ⟨m.X, 0, none⟩), .int .i64 i] w fun e w' => e = .returned (.int .i64 (s.err m.N i)) ∧ StepS m (s.pickI m.n m.N i) c 1 w w' := by
  by_cases hi : 0 ≤ i ∧ i < m.N
  · have e : isT m.N i = true := by unfold isT; exact decide_eq_true hi
    have e2 : ((i.toNat : Nat) : Int) = i := by omega
    unfold Sy.err Sy.pickI
    rw [e]
    have := pick_at m s c i.toNat w h (by omega) hc
    rw [e2] at this
    exact this
  · have e : isT m.N i = false := by unfold isT; exact decide_eq_false hi
    unfold Sy.err Sy.pickI
    rw [e]
    refine (pick_none i w h.mach h.ok.N1 hi).mono ?_
    rintro e w' ⟨rfl, rfl⟩
    exact ⟨rfl, StepS.refl h (by omega)⟩
end Go.Proofs.YtcjhbmkpfclmfaaDoor
