/-
  A memory, a sender and a receiver of a ring, in one world; their steps.
-/
import Derived.Test.YtnmobalgghggnaaDoorTell
namespace Go.Proofs.YtnmobalgghggnaaDoor
open Go.RowKit

/-- Where they lie. -/
structure Blk where
  g : Nat
  b : Nat
  B : Nat
  LB : Nat
  v : Value
  C : Nat
  u : Value
def Blk.own (m : Blk) (k : Nat) : Prop := k = m.g ∨ k = m.b ∨ k = m.B ∨ k = m.LB ∨ m.v.ownBlock = some k ∨ k = m.C ∨ m.u.ownBlock = some k
structure SysAt (w : World) (n : Nat) (m : Blk) (S : Sd) (R : Rv) (f : Nat → Int) (c : Int) : Prop where
  M : MemAt w m.g m.b n f c
  T : SenderAt w m.B m.LB m.v S.ph S
  U : ReceiverAt w m.C m.u R.ph R
  SW : S.Wf
  RW : R.Wf
  ff : U32 n f
  nn : n ≤ 4096
  G : GOk w
  dS : Dis m.g m.b m.B m.LB m.v
  dR : DisR m.g m.b m.C m.u
  x1 : m.B ≠ m.C
  x2 : m.LB ≠ m.C
  x3 : m.v.ownBlock ≠ some m.C
  x4 : m.u.ownBlock ≠ some m.B
  x5 : m.u.ownBlock ≠ some m.LB
  x6 : ∀ k, m.v.ownBlock = some k → m.u.ownBlock ≠ some k
  lo : ∀ k, m.own k → 6 ≤ k
  c0 : 0 ≤ c
theorem SysAt.lt {w : World} {n : Nat} {m : Blk} {S : Sd} {R : Rv} {f : Nat → Int} {c : Int} (h : SysAt w n m S R f c) : ∀ k, m.own k → k < w.heap.size := fun k hk => by
  rcases hk with e | e | e | e | e | e | e
  · subst e; exact h.M.ltg
  · subst e; exact h.M.row.lt
  · subst e; exact h.T.ltB
  · subst e; exact h.T.lb
  · exact h.T.own.lt e
  · subst e; exact h.U.ltB
  · exact h.U.own.lt e
theorem SysAt.chg {w w' : World} {n : Nat} {m : Blk} {S : Sd} {R : Rv} {f : Nat → Int} {c : Int} (h : SysAt w n m S R f c) {K : Nat → Prop} (hC : Chg K w w') (hK : ∀ k, m.own k → ¬ K k) (hG : GOk w') : SysAt w' n m S R f c :=
  ⟨hC.mem h.M (hK _ (.inl rfl)) (hK _ (.inr (.inl rfl))), h.T.chg hC (hK _ (.inr (.inr (.inl rfl)))) (hK _ (.inr (.inr (.inr (.inl rfl))))) (fun _ hx => hK _ (.inr (.inr (.inr (.inr (.inl hx)))))),
   h.U.chg hC (hK _ (.inr (.inr (.inr (.inr (.inr (.inl rfl))))))) (fun _ hx => hK _ (.inr (.inr (.inr (.inr (.inr (.inr hx))))))), h.SW, h.RW, h.ff, h.nn, hG, h.dS, h.dR, h.x1, h.x2, h.x3, h.x4, h.x5, h.x6, h.lo, h.c0⟩
theorem SysAt.keep {w w' : World} {n : Nat} {m : Blk} {S : Sd} {R : Rv} {f : Nat → Int} {c : Int} (h : SysAt w n m S R f c) (hB : Below w.heap.size w w') : SysAt w' n m S R f c :=
  h.chg (K := fun _ => False) (Chg.of_below hB) (fun _ _ => id) (h.G.keep hB)
/-- What a step leaves. -/
def StepA (n : Nat) (m : Blk) (S : Sd) (R : Rv) (f : Nat → Int) (c : Int) (w w' : World) : Prop :=
  ∃ m' c', SysAt w' n m' S R f c' ∧ c ≤ c' ∧ c' ≤ c + 1 ∧ m'.g = m.g ∧ m'.B = m.B ∧ m'.C = m.C ∧ Chg m.own w w' ∧ ∀ k, m'.own k → m.own k ∨ w.heap.size ≤ k
theorem sys_s {n : Nat} {m : Blk} {S : Sd} {R : Rv} {f : Nat → Int} {c : Int} {w : World} (h : SysAt w n m S R f c) (hc : c ≤ 1000000) :
    Calls Tryd.prog 19 #[.pointer (some ⟨m.B, 0, none⟩), .pointer (some ⟨m.g, 0, none⟩)] w fun e w' => e = .returned (.bool (decide (5 ≤ (S.step n f).ph))) ∧ StepA n m (S.step n f) R (S.word n f) c w w' := by
  refine (sender_step m.B m.LB m.g m.b n m.v S f c w ⟨h.T, h.SW, h.dS, h.G, h.M, h.nn, ⟨h.c0, hc⟩, h.ff⟩).mono ?_
  rintro e w' ⟨he, ⟨c', h1, h2, h3⟩, v', h4, h5, h6⟩
  refine ⟨he, { m with v := v' }, c', ?_, h1, h2, rfl, rfl, rfl, h5.mono fun k hk => ?_, fun k hk => ?_⟩
  · have hnew : ∀ k, v'.ownBlock = some k → m.v.ownBlock = some k ∨ w.heap.size ≤ k := fun k hk => by
      rcases h6 with e | ⟨j, e, hj⟩
      · rw [e] at hk; exact .inl hk
      · rw [hk] at e; injection e with e; subst e; exact .inr hj
    have hl := h.lt
    have hgl := hl _ (.inl rfl)
    have hbl := hl _ (.inr (.inl rfl))
    have hCl := hl m.C (.inr (.inr (.inr (.inr (.inr (.inl rfl))))))
    have hS : ∀ k, SS m.g m.b m.B m.v k → 6 ≤ k := fun k hk => h.lo k (by
      rcases hk with e | e | e | e
      · exact .inl e
      · exact .inr (.inl e)
      · exact .inr (.inr (.inl e))
      · exact .inr (.inr (.inr (.inr (.inl e)))))
    have h6G : GOk w' := h5.six hS h.G
    have hnS : ∀ k, k = m.C ∨ m.u.ownBlock = some k → ¬ SS m.g m.b m.B m.v k := fun k hk hs => by
      rcases hk with rfl | hk
      · rcases hs with e | e | e | e
        · exact h.dR.gB e.symm
        · exact h.dR.bB e.symm
        · exact h.x1 e.symm
        · exact h.x3 e
      · rcases hs with e | e | e | e
        · exact h.dR.gv (by rw [hk, e])
        · exact h.dR.bv (by rw [hk, e])
        · exact h.x4 (by rw [hk, e])
        · exact h.x6 k e hk
    refine ⟨h3, h4, h.U.chg h5 (hnS _ (.inl rfl)) (fun x hx => hnS x (.inr hx)), h.SW.step h.ff, h.RW, h.ff.sword h.SW, h.nn, h6G, ⟨h.dS.gB, h.dS.bB, h.dS.gL, h.dS.bL, fun e => ?_, fun e => ?_⟩, h.dR, h.x1, h.x2, fun e => ?_, h.x4, h.x5, fun k hk hu => ?_, fun k hk => ?_, by have := h.c0; omega⟩
    · rcases hnew _ e with h7 | h7
      · exact h.dS.gv h7
      · exact absurd hgl (Nat.not_lt.2 h7)
    · rcases hnew _ e with h7 | h7
      · exact h.dS.bv h7
      · exact absurd hbl (Nat.not_lt.2 h7)
    · rcases hnew _ e with h7 | h7
      · exact h.x3 h7
      · exact absurd hCl (Nat.not_lt.2 h7)
    · rcases hnew _ hk with h7 | h7
      · exact h.x6 k h7 hu
      · have := h.U.own.lt hu; omega
    · rcases hk with e | e | e | e | e | e | e
      · exact h.lo k (.inl e)
      · exact h.lo k (.inr (.inl e))
      · exact h.lo k (.inr (.inr (.inl e)))
      · exact h.lo k (.inr (.inr (.inr (.inl e))))
      · rcases hnew _ e with h7 | h7
        · exact h.lo k (.inr (.inr (.inr (.inr (.inl h7)))))
        · have := h.lo _ (.inl rfl); omega
      · exact h.lo k (.inr (.inr (.inr (.inr (.inr (.inl e))))))
      · exact h.lo k (.inr (.inr (.inr (.inr (.inr (.inr e))))))
  · rcases hk with e | e | e | e
    · exact .inl e
    · exact .inr (.inl e)
    · exact .inr (.inr (.inl e))
    · exact .inr (.inr (.inr (.inr (.inl e))))
  · rcases hk with e | e | e | e | e | e | e
    · exact .inl (.inl e)
    · exact .inl (.inr (.inl e))
    · exact .inl (.inr (.inr (.inl e)))
    · exact .inl (.inr (.inr (.inr (.inl e))))
    · rcases h6 with e2 | ⟨j, e2, hj⟩
      · exact .inl (.inr (.inr (.inr (.inr (.inl (by rw [← e2]; exact e))))))
      · have e : v'.ownBlock = some k := e
        rw [e2] at e
        injection e with e
        exact .inr (by omega)
    · exact .inl (.inr (.inr (.inr (.inr (.inr (.inl e))))))
    · exact .inl (.inr (.inr (.inr (.inr (.inr (.inr e))))))
theorem sys_r {n : Nat} {m : Blk} {S : Sd} {R : Rv} {f : Nat → Int} {c : Int} {w : World} (h : SysAt w n m S R f c) (hc : c ≤ 1000000) :
    Calls Tryd.prog 20 #[.pointer (some ⟨m.C, 0, none⟩), .pointer (some ⟨m.g, 0, none⟩)] w fun e w' => e = .returned (.bool (decide (5 ≤ (R.step n f).ph))) ∧ StepA n m S (R.step n f) (R.word n f) c w w' := by
  refine (receiver_step m.C m.g m.b n m.u R f c w ⟨h.U, h.RW, h.dR, h.G, h.M, h.nn, ⟨h.c0, hc⟩, h.ff⟩).mono ?_
  rintro e w' ⟨he, ⟨c', h1, h2, h3⟩, v', h4, h5, h6⟩
  refine ⟨he, { m with u := v' }, c', ?_, h1, h2, rfl, rfl, rfl, h5.mono fun k hk => ?_, fun k hk => ?_⟩
  · have hnew : ∀ k, v'.ownBlock = some k → m.u.ownBlock = some k ∨ w.heap.size ≤ k := fun k hk => by
      rcases h6 with e | ⟨j, e, hj⟩
      · rw [e] at hk; exact .inl hk
      · rw [hk] at e; injection e with e; subst e; exact .inr hj
    have hl := h.lt
    have hgl := hl _ (.inl rfl)
    have hbl := hl _ (.inr (.inl rfl))
    have hBl := hl m.B (.inr (.inr (.inl rfl)))
    have hLl := hl m.LB (.inr (.inr (.inr (.inl rfl))))
    have hS : ∀ k, SS m.g m.b m.C m.u k → 6 ≤ k := fun k hk => h.lo k (by
      rcases hk with e | e | e | e
      · exact .inl e
      · exact .inr (.inl e)
      · exact .inr (.inr (.inr (.inr (.inr (.inl e)))))
      · exact .inr (.inr (.inr (.inr (.inr (.inr e))))))
    have h6G : GOk w' := h5.six hS h.G
    have hnB : ¬ SS m.g m.b m.C m.u m.B := fun hs => by
      rcases hs with e | e | e | e
      · exact h.dS.gB e.symm
      · exact h.dS.bB e.symm
      · exact h.x1 e
      · exact h.x4 e
    have hnL : ¬ SS m.g m.b m.C m.u m.LB := fun hs => by
      rcases hs with e | e | e | e
      · exact h.dS.gL e.symm
      · exact h.dS.bL e.symm
      · exact h.x2 e
      · exact h.x5 e
    have hnv : ∀ k, m.v.ownBlock = some k → ¬ SS m.g m.b m.C m.u k := fun k hk hs => by
      rcases hs with e | e | e | e
      · exact h.dS.gv (by rw [hk, e])
      · exact h.dS.bv (by rw [hk, e])
      · exact h.x3 (by rw [hk, e])
      · exact h.x6 k hk e
    refine ⟨h3, h.T.chg h5 hnB hnL hnv, h4, h.SW, h.RW.step h.ff, h.ff.rword, h.nn, h6G, h.dS, ⟨h.dR.gB, h.dR.bB, fun e => ?_, fun e => ?_⟩, h.x1, h.x2, h.x3, fun e => ?_, fun e => ?_, fun k hk hu => ?_, fun k hk => ?_, by have := h.c0; omega⟩
    · rcases hnew _ e with h7 | h7
      · exact h.dR.gv h7
      · exact absurd hgl (Nat.not_lt.2 h7)
    · rcases hnew _ e with h7 | h7
      · exact h.dR.bv h7
      · exact absurd hbl (Nat.not_lt.2 h7)
    · rcases hnew _ e with h7 | h7
      · exact h.x4 h7
      · exact absurd hBl (Nat.not_lt.2 h7)
    · rcases hnew _ e with h7 | h7
      · exact h.x5 h7
      · exact absurd hLl (Nat.not_lt.2 h7)
    · rcases hnew _ hu with h7 | h7
      · exact h.x6 k hk h7
      · have := h.T.own.lt hk; omega
    · rcases hk with e | e | e | e | e | e | e
      · exact h.lo k (.inl e)
      · exact h.lo k (.inr (.inl e))
      · exact h.lo k (.inr (.inr (.inl e)))
      · exact h.lo k (.inr (.inr (.inr (.inl e))))
      · exact h.lo k (.inr (.inr (.inr (.inr (.inl e)))))
      · exact h.lo k (.inr (.inr (.inr (.inr (.inr (.inl e))))))
      · rcases hnew _ e with h7 | h7
        · exact h.lo k (.inr (.inr (.inr (.inr (.inr (.inr h7))))))
        · have := h.lo _ (.inl rfl); omega
  · rcases hk with e | e | e | e
    · exact .inl e
    · exact .inr (.inl e)
    · exact .inr (.inr (.inr (.inr (.inr (.inl e)))))
    · exact .inr (.inr (.inr (.inr (.inr (.inr e)))))
  · rcases hk with e | e | e | e | e | e | e
    · exact .inl (.inl e)
    · exact .inl (.inr (.inl e))
    · exact .inl (.inr (.inr (.inl e)))
    · exact .inl (.inr (.inr (.inr (.inl e))))
    · exact .inl (.inr (.inr (.inr (.inr (.inl e)))))
    · exact .inl (.inr (.inr (.inr (.inr (.inr (.inl e))))))
    · rcases h6 with e2 | ⟨j, e2, hj⟩
      · exact .inl (.inr (.inr (.inr (.inr (.inr (.inr (by rw [← e2]; exact e)))))))
      · have e : v'.ownBlock = some k := e
        rw [e2] at e
        injection e with e
        exact .inr (by omega)
/-- A system made of new ones. -/
theorem sys_new {w : World} {n : Nat} {g b B LB C : Nat} {S : Sd} {R : Rv} {f : Nat → Int} {c : Int} (hM : MemAt w g b n f c) (hT : SenderAt w B LB (.slice none 0 0) S.ph S) (hU : ReceiverAt w C (.slice none 0 0) R.ph R) (hSW : S.Wf) (hRW : R.Wf) (hf : U32 n f) (hn : n ≤ 4096) (hG : GOk w)
    (h1 : g ≠ B) (h2 : b ≠ B) (h3 : g ≠ LB) (h4 : b ≠ LB) (h5 : g ≠ C) (h6 : b ≠ C) (h7 : B ≠ C) (h8 : LB ≠ C) (hlo : 6 ≤ g ∧ 6 ≤ b ∧ 6 ≤ B ∧ 6 ≤ LB ∧ 6 ≤ C) (hc : 0 ≤ c) : SysAt w n ⟨g, b, B, LB, .slice none 0 0, C, .slice none 0 0⟩ S R f c :=
  ⟨hM, hT, hU, hSW, hRW, hf, hn, hG, ⟨h1, h2, h3, h4, by simp [Value.ownBlock], by simp [Value.ownBlock]⟩, ⟨h5, h6, by simp [Value.ownBlock], by simp [Value.ownBlock]⟩, h7, h8, by simp [Value.ownBlock], by simp [Value.ownBlock], by simp [Value.ownBlock], fun k hk => by simp [Value.ownBlock] at hk, fun k hk => by
    rcases hk with e | e | e | e | e | e | e
    · have e : k = g := e; omega
    · have e : k = b := e; omega
    · have e : k = B := e; omega
    · have e : k = LB := e; omega
    · simp [Value.ownBlock] at e
    · have e : k = C := e; omega
    · simp [Value.ownBlock] at e, hc⟩
end Go.Proofs.YtnmobalgghggnaaDoor
