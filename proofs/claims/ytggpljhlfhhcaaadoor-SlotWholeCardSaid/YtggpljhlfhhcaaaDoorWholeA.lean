/-
  What is kept in SlotWhole: a memory and a get, a put, the messages so far.
-/
import Derived.Test.YtggpljhlfhhcaaaDoorMp
import Derived.Test.YtggpljhlfhhcaaaDoorMany
import Derived.Test.YtggpljhlfhhcaaaDoorOwn
import Derived.Test.YtggpljhlfhhcaaaDoorOpenX
namespace Go.Proofs.YtggpljhlfhhcaaaDoor
open Go.RowKit

def wasL (M : Nat → ByteArray) (k : Nat) : List Value := (List.range k).map fun j => .string (wasM M j)
def whenL (T : Nat → Int) (k : Nat) : List Value := (List.range k).map fun j => .int .u32 (whenT T j)
theorem wasL_len (M : Nat → ByteArray) (k : Nat) : (wasL M k).length = k := by simp [wasL]
theorem whenL_len (T : Nat → Int) (k : Nat) : (whenL T k).length = k := by simp [whenL]
theorem wasL_next (M : Nat → ByteArray) (k : Nat) : wasL M (k + 1) ++ [.string (M k)] = wasL M (k + 1 + 1) := by
  unfold wasL
  rw [List.range_succ (n := k + 1), List.map_append]
  rfl
theorem whenL_next (T : Nat → Int) (k : Nat) : whenL T (k + 1) ++ [.int .u32 (T k)] = whenL T (k + 1 + 1) := by
  unfold whenL
  rw [List.range_succ (n := k + 1), List.map_append]
  rfl
/-- The messages so far, and their ticks. -/
structure Was (H : Nat) (w : World) (X Y cx cy k : Nat) (M : Nat → ByteArray) (T : Nat → Int) : Prop where
  s : Grow w 9 (.slice (some ⟨X, 0, none⟩) k cx) (wasL M k)
  t : Grow w 32 (.slice (some ⟨Y, 0, none⟩) k cy) (whenL T k)
  lo : H ≤ X ∧ H ≤ Y ∧ X ≠ Y
section
variable {H : Nat} {w w' : World} {X Y cx cy k : Nat} {M : Nat → ByteArray} {T : Nat → Int}
theorem Was.keep (h : Was H w X Y cx cy k M T) (hB : Below w.heap.size w w') : Was H w' X Y cx cy k M T := ⟨h.s.keep hB, h.t.keep hB, h.lo⟩
theorem Was.chg {S : Nat → Prop} (h : Was H w X Y cx cy k M T) (hC : Chg S w w') (h1 : ¬ S X) (h2 : ¬ S Y) : Was H w' X Y cx cy k M T :=
  ⟨h.s.chg hC (fun x hx => by injection hx with hx; rw [← hx]; exact h1), h.t.chg hC (fun x hx => by injection hx with hx; rw [← hx]; exact h2), h.lo⟩
theorem Was.lt (h : Was H w X Y cx cy k M T) : X < w.heap.size ∧ Y < w.heap.size := ⟨h.s.lt rfl, h.t.lt rfl⟩
theorem Was.was (h : Was H w X Y cx cy k M T) {j : Nat} (hj : j < k) : w.cell? ⟨X, j, none⟩ = some (.string (wasM M j)) := by
  obtain ⟨g, c, e, h1⟩ := h.s.cell (i := j) (by rw [wasL_len]; exact hj)
  injection e with e _ _
  injection e with e
  injection e with e _
  subst e
  rw [h1]
  simp [wasL]
theorem Was.when (h : Was H w X Y cx cy k M T) {j : Nat} (hj : j < k) : w.cell? ⟨Y, j, none⟩ = some (.int .u32 (whenT T j)) := by
  obtain ⟨g, c, e, h1⟩ := h.t.cell (i := j) (by rw [whenL_len]; exact hj)
  injection e with e _ _
  injection e with e
  injection e with e _
  subst e
  rw [h1]
  simp [whenL]
end
/-- Between puts. -/
structure Wh (H n2 : Nat) (M : Nat → ByteArray) (T : Nat → Int) (g b k a l : Nat) (d : Bool) (K R X Y cx cy : Nat) (f : Nat → Int) (r : Rd) (w0 w : World) : Prop where
  sm : Sm H w g b 5 K R 8 f a r
  tr : r.tr ≤ a
  was : Was H w X Y cx cy (k + 1) M T
  ne : (X ≠ g ∧ X ≠ b ∧ X ≠ K ∧ X ≠ R) ∧ Y ≠ g ∧ Y ≠ b ∧ Y ≠ K ∧ Y ≠ R
  bel : Below H w0 w
  al : a < n2 ∧ a < 200 → Kept M T (absI M T k) f l r ∧ l ≤ k ∧ d = decide (r.k.ph = 3)
/-- While a put is at work. -/
structure Wi (H n2 : Nat) (M : Nat → ByteArray) (T : Nat → Int) (g b k a l : Nat) (d : Bool) (K R X Y cx cy : Nat) (f : Nat → Int) (r : Rd) (a0 P B ca G : Nat) (s : Wr) (w0 w : World) : Prop where
  sm : Sm H w g b 5 K R 8 f a r
  tr : r.tr ≤ a
  was : Was H w X Y cx cy (k + 1 + 1) M T
  pt : Pt w P B (some ⟨G, 0, none⟩) ca s
  ap : Ap H g b K R P B (some ⟨G, 0, none⟩)
  lg : G < w.heap.size
  ne : (X ≠ g ∧ X ≠ b ∧ X ≠ K ∧ X ≠ R ∧ X ≠ B) ∧ Y ≠ g ∧ Y ≠ b ∧ Y ≠ K ∧ Y ≠ R ∧ Y ≠ B
  bel : Below H w0 w
  le : a0 ≤ a
  al : a0 < n2 ∧ a0 < 200 → PutI M T k s ∧ Kept M T (absS M T k s) f l r ∧ l ≤ k + s.wr ∧ d = decide (r.k.ph = 3)
section
variable {H n2 : Nat} {M : Nat → ByteArray} {T : Nat → Int} {g b k a l : Nat} {d : Bool} {K R X Y cx cy : Nat} {f : Nat → Int} {r : Rd} {a0 P B ca G : Nat} {s : Wr} {w0 w w' : World}
/-- The put is done, or nobody is picked any more. -/
theorem Wi.out (h : Wi H n2 M T g b k a l d K R X Y cx cy f r a0 P B ca G s w0 w) (hx : s.wr ≠ 0 ∨ ¬ (a < n2 ∧ a < 200)) : Wh H n2 M T g b (k + 1) a l d K R X Y cx cy f r w0 w := by
  refine ⟨h.sm, h.tr, h.was, ⟨⟨h.ne.1.1, h.ne.1.2.1, h.ne.1.2.2.1, h.ne.1.2.2.2.1⟩, h.ne.2.1, h.ne.2.2.1, h.ne.2.2.2.1, h.ne.2.2.2.2.1⟩, h.bel, fun ha => ?_⟩
  have ha0 := h.le
  obtain ⟨hp, hk, hl, hd⟩ := h.al (by omega)
  have hw : s.wr ≠ 0 := by
    rcases hx with h | h
    · exact h
    · exact absurd ha h
  have e := hp.wr
  have h3 : s.k.ph = 3 := by
    by_cases h : s.k.ph = 3
    · exact h
    · rw [if_neg h] at e; exact absurd e hw
  rw [if_pos h3] at e
  rw [hp.over h3] at hk
  exact ⟨hk, by omega, hd⟩
/-- A step of the put. -/
theorem wi_write (h : Wi H n2 M T g b k a l d K R X Y cx cy f r a0 P B ca G s w0 w) (ha : a < n2 ∧ a < 200) (hk : k < 8) (hs : s.wr = 0) :
    ∃ dd, Calls Tryd.prog 16 #[.pointer (some ⟨B, 0, none⟩), .pointer (some ⟨g, 0, none⟩)] w fun e w' => e = .returned (.bool dd) ∧ Wi H n2 M T g b k (a + 1) l d K R X Y cx cy (s.word 5 f) r a0 P B ca G (s.step 5) w0 w' := by
  have ha0 := h.le
  obtain ⟨hp, hk2, hl, hd⟩ := h.al (by omega)
  have hp3 : s.k.ph < 3 := by
    have := hp.ph
    have e := hp.wr
    rcases Nat.lt_or_ge s.k.ph 3 with h' | h'
    · exact h'
    · rw [if_pos (by omega)] at e; omega
  obtain ⟨q1, q2, q3⟩ := hp.step (f := f) (by omega) hp3
  refine ⟨decide (3 ≤ (s.step 5).k.ph), (sl_write h.sm h.pt h.ap (by omega) _ rfl).mono ?_⟩
  rintro e w' ⟨he, a1, a2, a3, a4⟩
  have ne := h.ne
  refine ⟨he, a1, by have := h.tr; omega, h.was.chg a4 (fun hk => ?_) (fun hk => ?_), a2, h.ap, Nat.lt_of_lt_of_le h.lg a4.size, h.ne, h.bel.trans a3, by omega, fun _ => ⟨q1, ?_, ?_, hd⟩⟩
  · rcases hk with e | e | e <;> omega
  · rcases hk with e | e | e <;> omega
  · have := hk2.write
    rw [q2, q3] at this
    exact this
  · omega
/-- A new get in the place of one that is done. -/
theorem Wi.anew (h : Wi H n2 M T g b k a l d K R X Y cx cy f r a0 P B ca G s w0 w) (hB : Below w.heap.size w w') (hR : ReaderAt w' w.heap.size 0 (rd0 0 (2 + need 8))) (hK : GetAt w' (w.heap.size + 1) w.heap.size 8) :
    Wi H n2 M T g b k a l false (w.heap.size + 1) w.heap.size X Y cx cy f (rd0 0 (2 + need 8)) a0 P B ca G s w0 w' := by
  have hl := h.was.lt
  have ne := h.ne
  refine ⟨h.sm.anew hB hR hK (fun _ => by show (0 : Int) ≤ 0 ∧ (0 : Int) < 4294967296; omega) ⟨Nat.le_refl _, Nat.lt_succ_self _⟩, Nat.zero_le _, h.was.keep hB, h.pt.keep hB, h.ap.anew h.pt (fun x o e => ?_) ⟨Nat.le_refl _, Nat.lt_succ_self _⟩, Nat.lt_of_lt_of_le h.lg hB.size, by omega, h.bel.trans (hB.mono h.sm.hs), h.le, fun ha => ?_⟩
  · injection e with e
    injection e with e1 _
    have := h.lg
    omega
  · obtain ⟨h1, h2, h3, _⟩ := h.al ha
    exact ⟨h1, h2.anew, h3, rfl⟩
/-- A step of the get. -/
theorem wi_read (h : Wi H n2 M T g b k a l d K R X Y cx cy f r a0 P B ca G s w0 w) (ha : a < n2 ∧ a < 200) (hs : s.wr = 0) :
    ∃ (f2 : Nat → Int) (r2 : Rd), Calls Tryd.prog 20 #[.pointer (some ⟨R, 0, none⟩), .pointer (some ⟨g, 0, none⟩)] w (fun e w' => e = .returned (.bool (decide (r2.k.ph = 3))) ∧ ((r2.tr = r.tr ∧ Wi H n2 M T g b k (a + 1) l (decide (r2.k.ph = 3)) K R X Y cx cy f2 r2 a0 P B ca G s w0 w') ∨ (r2.tr = r.tr + 1 ∧ r2.k.ph = 1 ∧ Wi H n2 M T g b k (a + 1) k (decide (r2.k.ph = 3)) K R X Y cx cy f2 r2 a0 P B ca G s w0 w'))) := by
  have ha0 := h.le
  obtain ⟨hp, hk2, hl, hd⟩ := h.al (by omega)
  have htr := h.tr
  have hdd : decide (3 ≤ (r.step 5 f).k.ph) = decide ((r.step 5 f).k.ph = 3) := by
    have : (r.step 5 f).k.ph ≤ 3 := by
      rcases hk2.read with ⟨_, h⟩ | ⟨_, _, h⟩ <;> exact h.ri.p3
    exact decide_eq_decide.2 (by omega)
  refine ⟨f, r.step 5 f, (sl_read h.sm h.pt h.ap (by omega) (by omega) _ hdd).mono ?_⟩
  rintro e w' ⟨he, a1, a2, a3, a4⟩
  have ne := h.ne
  have hw : Was H w' X Y cx cy (k + 1 + 1) M T := h.was.chg a4 (fun hk => by rcases hk with e | e | e <;> omega) (fun hk => by rcases hk with e | e | e <;> omega)
  have ht := rd_tr 5 f r
  have e0 : (absS M T k s).wr = k := by show k + s.wr = k; omega
  refine ⟨he, ?_⟩
  rcases hk2.read with ⟨h1, h2⟩ | ⟨h1, h3, h2⟩
  · exact .inl ⟨h1, a1, by omega, hw, a2, h.ap, Nat.lt_of_lt_of_le h.lg a4.size, h.ne, h.bel.trans a3, by omega, fun _ => ⟨hp, h2, hl, rfl⟩⟩
  · rw [e0] at h2
    exact .inr ⟨h1, h3, a1, by omega, hw, a2, h.ap, Nat.lt_of_lt_of_le h.lg a4.size, h.ne, h.bel.trans a3, by omega, fun _ => ⟨hp, h2, by omega, rfl⟩⟩
theorem Wi.keep (h : Wi H n2 M T g b k a l d K R X Y cx cy f r a0 P B ca G s w0 w) (hB : Below w.heap.size w w') : Wi H n2 M T g b k a l d K R X Y cx cy f r a0 P B ca G s w0 w' :=
  ⟨h.sm.keep hB, h.tr, h.was.keep hB, h.pt.keep hB, h.ap, Nat.lt_of_lt_of_le h.lg hB.size, h.ne, h.bel.trans (hB.mono h.sm.hs), h.le, h.al⟩
/-- What the get says that is done. -/
theorem wi_said (h : Wi H n2 M T g b k a l d K R X Y cx cy f r a0 P B ca G s w0 w) (ha : a0 < n2 ∧ a0 < 200) (hp : r.k.ph = 3) (hm : ∀ k, (M k).size ≤ 8) (hs : s.wr = 0) :
    Calls Tryd.prog 23 #[.pointer (some ⟨K, 0, none⟩)] w (fun e w' => e = .returned (.tuple #[.string (wasM M l), .int .u32 (whenT T l), .bool true]) ∧ Below w.heap.size w w') ∧ l ≤ k := by
  obtain ⟨_, hk, hl, _⟩ := h.al ha
  obtain ⟨e1, e2, e3, _⟩ := hk.said hp hm
  have := sm_message_yes h.sm hp e1 (by omega) (by omega)
  rw [e2, e3] at this
  exact ⟨this, by omega⟩
/-- At first. -/
theorem wh_0 (hS : Sm H w g b 5 K R 8 (fun _ => 0) 0 (rd0 0 4)) (hB : Below H w0 w) : Wh H n2 M T g b 0 0 0 false K R w.heap.size (w.heap.size + 1) 1 1 (fun _ => 0) (rd0 0 4) w0 ((w.alloc (.cells #[.string ⟨#[]⟩] 9)).alloc (.cells #[.int .u32 0] 32)) := by
  have hl := hS.lts
  have hs := hS.hs
  have hA : Below w.heap.size w ((w.alloc (.cells #[.string ⟨#[]⟩] 9)).alloc (.cells #[.int .u32 0] 32)) := ((Below.refl _ _).alloc (Nat.le_refl _) _).alloc (by simp) _
  refine ⟨hS.keep hA, Nat.le_refl _, ⟨Grow.keep (w := w.alloc (.cells #[.string ⟨#[]⟩] 9)) ?_ ((Below.refl _ _).alloc (Nat.le_refl _) _), ?_, by omega⟩, by omega, hB.trans (hA.mono hs), fun _ => ⟨kept_0 M T, Nat.le_refl _, rfl⟩⟩
  · exact World.ownsRow_lit (base := 0) (e := 9) (size := 1) w #[.string ⟨#[]⟩] 1 (Nat.zero_le _) (by unfold maxLen; omega) rfl
  · have := World.ownsRow_lit (base := 0) (e := 32) (size := 1) (w.alloc (.cells #[.string ⟨#[]⟩] 9)) #[.int .u32 0] 1 (Nat.zero_le _) (by unfold maxLen; omega) rfl
    rw [World.size_alloc] at this
    exact this
/-- Two appends. -/
theorem Was.push {H : Nat} {w wa wb : World} {X Y cx cy k X' Y' cx' cy' : Nat} {M : Nat → ByteArray} {T : Nat → Int} (h : Was H w X Y cx cy (k + 1) M T)
    (h1 : Grow wa 9 (.slice (some ⟨X', 0, none⟩) (k + 1 + 1) cx') (wasL M (k + 1) ++ [.string (M k)])) (c1 : Chg (fun x => (Value.slice (some ⟨X, 0, none⟩) (k + 1) cx).ownBlock = some x) w wa) (e1 : (Value.slice (some ⟨X, 0, none⟩) (k + 1) cx).ownBlock = some X' ∨ w.heap.size ≤ X') (l1 : X' < wa.heap.size)
    (h2 : Grow wb 32 (.slice (some ⟨Y', 0, none⟩) (k + 1 + 1) cy') (whenL T (k + 1) ++ [.int .u32 (T k)])) (c2 : Chg (fun x => (Value.slice (some ⟨Y, 0, none⟩) (k + 1) cy).ownBlock = some x) wa wb) (e2 : (Value.slice (some ⟨Y, 0, none⟩) (k + 1) cy).ownBlock = some Y' ∨ wa.heap.size ≤ Y') (hH : H ≤ w.heap.size) :
    Was H wb X' Y' cx' cy' (k + 1 + 1) M T ∧ Chg (fun x => x = X ∨ x = Y) w wb ∧ (X' = X ∨ w.heap.size ≤ X') ∧ (Y' = Y ∨ w.heap.size ≤ Y') := by
  rw [wasL_next] at h1
  rw [whenL_next] at h2
  have hl := h.lt
  have hlo := h.lo
  have s1 := c1.size
  have f1 : X' = X ∨ w.heap.size ≤ X' := by
    rcases e1 with e | e
    · injection e with e; exact .inl e.symm
    · exact .inr e
  have f2 : Y' = Y ∨ wa.heap.size ≤ Y' := by
    rcases e2 with e | e
    · injection e with e; exact .inl e.symm
    · exact .inr e
  have k1 : Chg (fun x => x = X ∨ x = Y) w wa := c1.mono fun x hx => by injection hx with hx; exact .inl hx.symm
  have k2 : Chg (fun x => x = X ∨ x = Y) wa wb := c2.mono fun x hx => by injection hx with hx; exact .inr hx.symm
  refine ⟨⟨h1.chg c2 (fun x hx he => ?_), h2, by omega⟩, k1.trans k2, f1, by omega⟩
  injection hx with hx
  injection he with he
  have hx : X' = x := hx
  have he : Y = x := he
  omega
set_option maxHeartbeats 2000000 in
/-- The put is new, and its message is listed. -/
theorem Wh.begin {H n2 : Nat} {M : Nat → ByteArray} {T : Nat → Int} {g b k a l : Nat} {d : Bool} {K R X Y cx cy : Nat} {f : Nat → Int} {r : Rd} {P B ca G X' Y' cx' cy' : Nat} {w0 w w1 w2 : World}
    (h : Wh H n2 M T g b k a l d K R X Y cx cy f r w0 w) (hB : Below w.heap.size w w1) (hG : w.heap.size ≤ G) (hGB : G < B) (hBP : B < P) (hPs : P < w1.heap.size) (hW : WriterAt w1 B 0 (some ⟨G, 0, none⟩) ca (putS 0 8 (M k) (T k))) (hP : PutAt w1 P B) (hm : (M k).size ≤ 8) (ht : 0 ≤ T k ∧ T k < 4294967296)
    (hw : Was H w2 X' Y' cx' cy' (k + 1 + 1) M T) (hC : Chg (fun x => x = X ∨ x = Y) w1 w2) (hX : X' = X ∨ w1.heap.size ≤ X') (hY : Y' = Y ∨ w1.heap.size ≤ Y') :
    Wi H n2 M T g b k a l d K R X' Y' cx' cy' f r a P B ca G (putS 0 8 (M k) (T k)) w0 w2 := by
  have hl := h.sm.lts
  have hs := h.sm.hs
  have hlo := h.was.lo
  have hlt := h.was.lt
  have ne := h.ne
  have sB := hB.size
  obtain ⟨c, c0, c1, hm5⟩ := (h.sm.keep hB).mem
  have S1 := h.sm.keep hB
  have nX : ∀ x, x = X ∨ x = Y → H ≤ x := fun x hx => by omega
  refine ⟨⟨⟨c, c0, c1, hC.mem hm5 (by omega) (by omega)⟩, S1.rd.chg hC (by omega), S1.gt.chg hC (by omega), hC.six (fun x hx => by have := nX x hx; have := h.sm.lo; omega) S1.gok, S1.wf, S1.rw, S1.lo, S1.ne, S1.n1⟩, h.tr, hw, ⟨hW.chg hC (by omega) (fun x o e hx => ?_), hP.chg hC (by omega), put_vf (by omega) ht⟩, ⟨by omega, by omega, fun x o e => ?_⟩, by have := hC.size; omega, by omega, h.bel.trans ((hB.mono hs).trans (hC.below nX (by omega))), Nat.le_refl _, fun ha => ?_⟩
  · injection e with e
    injection e with e1 _
    omega
  · injection e with e
    injection e with e1 _
    omega
  · obtain ⟨q1, q2, q3⟩ := h.al ha
    obtain ⟨p1, p2⟩ := puti_0 M T k
    rw [← p2] at q1
    exact ⟨p1, q1, Nat.le_trans q2 (Nat.le_add_right _ _), q3⟩
/-- A put is new. -/
theorem Wh.put (h : Wh H n2 M T g b k a l d K R X Y cx cy f r w0 w) (hB : Below w.heap.size w w') (hG : w.heap.size ≤ G) (hGB : G < B) (hBP : B < P) (hW : WriterAt w' B 0 (some ⟨G, 0, none⟩) ca (putS 0 8 (M k) (T k))) (hP : PutAt w' P B) (hm : (M k).size ≤ 8) (ht : 0 ≤ T k ∧ T k < 4294967296) :
    Sm H w' g b 5 K R 8 f a r ∧ Pt w' P B (some ⟨G, 0, none⟩) ca (putS 0 8 (M k) (T k)) ∧ Ap H g b K R P B (some ⟨G, 0, none⟩) ∧ Was H w' X Y cx cy (k + 1) M T := by
  have hl := h.sm.lts
  have hs := h.sm.hs
  refine ⟨h.sm.keep hB, ⟨hW, hP, put_vf (by omega) ht⟩, ⟨by omega, by omega, fun x o e => ?_⟩, h.was.keep hB⟩
  injection e with e
  injection e with e1 _
  omega
end
end Go.Proofs.YtggpljhlfhhcaaaDoor
