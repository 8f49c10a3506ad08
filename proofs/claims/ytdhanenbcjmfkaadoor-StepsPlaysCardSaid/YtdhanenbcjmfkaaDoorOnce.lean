/-
  Tasks of the law's own: they count their steps.
-/
import Derived.Test.YtdhanenbcjmfkaaDoorWalkAdd
namespace Go.Proofs.YtdhanenbcjmfkaaDoor
open Go.RowKit

/-- What a task of the law's own leaves. -/
def LoneP (O o : Nat) (n : Int) (w w' : World) : Prop := ∃ k, w' = (w.setCell ⟨O, o, none⟩ (.int .i64 (n + 1))).drewN k
set_option maxHeartbeats 2000000 in
set_option maxRecDepth 100000 in
theorem lone_any (O o : Nat) (n la : Int) (w : World) (h0 : w.cell? ⟨O, o, none⟩ = some (.int .i64 n)) (h1 : w.cell? ⟨O, o + 1, none⟩ = some (.int .i64 la)) (hf : w.frozen? ⟨O, o, none⟩ = false) (hn : 0 ≤ n) (hn2 : n ≤ 1000) (g : Option Addr) :
    Calls Tryd.prog 56 #[.pointer (some ⟨O, o, none⟩), .pointer g] w fun e w' => e = .returned (.bool (decide (n + 1 = la))) ∧ LoneP O o n w w' := by
  go_enter Tryd.func56, Tryd.ntmps56
  go_wp2_with fail
  go_quiet (fail)
  go_wp2_with fail
  go_ret
  exact ⟨rfl, _, rfl⟩
theorem heap_drewN (w : World) : ∀ k, (w.drewN k).heap = w.heap
  | 0 => rfl
  | k + 1 => heap_drewN w k
theorem below_drewN {B : Nat} {w0 w : World} (h : Below B w0 w) (n : Nat) : Below B w0 (w.drewN n) := by
  induction n with
  | zero => exact h
  | succ n ih => exact ih.drew
/-- The tasks' cells: how often asked, and the last step. -/
def ownF (a la : Nat → Int) (j : Nat) : Value := .int .i64 (if j % 2 = 0 then a (j / 2) else la (j / 2))
theorem ownF_a {a la : Nat → Int} (i : Nat) : ownF a la (i * 2) = .int .i64 (a i) := by
  unfold ownF; rw [if_pos (by omega), show i * 2 / 2 = i by omega]
theorem ownF_la {a la : Nat → Int} (i : Nat) : ownF a la (i * 2 + 1) = .int .i64 (la i) := by
  unfold ownF; rw [if_neg (by omega), show (i * 2 + 1) / 2 = i by omega]
theorem ownF_seta (a la : Nat → Int) (i : Nat) (x : Int) (j : Nat) : (if j = i * 2 then Value.int .i64 x else ownF a la j) = ownF (upd a i x) la j := by
  unfold ownF upd
  by_cases h : j = i * 2
  · subst h; rw [if_pos rfl, if_pos (by omega), if_pos (by omega)]
  · rw [if_neg h]
    by_cases h2 : j % 2 = 0
    · rw [if_pos h2, if_pos h2, if_neg (by omega)]
    · rw [if_neg h2, if_neg h2]
theorem ownF_setla (a la : Nat → Int) (i : Nat) (x : Int) (j : Nat) : (if j = i * 2 + 1 then Value.int .i64 x else ownF a la j) = ownF a (upd la i x) j := by
  unfold ownF upd
  by_cases h : j = i * 2 + 1
  · subst h; rw [if_pos rfl, if_neg (by omega), if_pos (by omega)]
  · rw [if_neg h]
    by_cases h2 : j % 2 = 0
    · rw [if_pos h2, if_pos h2]
    · rw [if_neg h2, if_neg h2, if_neg (by omega)]
theorem method56 (a : Addr) (w : World) : (method 207 63 (.pointer (some a)) "Step").run Tryd.prog w = .ok (56, .pointer (some a)) w := by kernel_rfl
theorem enters56 : Enters 56 := enters_of Tryd.func56 (by kernel_rfl) rfl
/-- The machine of the law's own tasks. -/
structure OnceAt (w : World) (X g : Nat) (A : Option Addr) (TB N cap D O : Nat) (t : TypeId) (a la : Nat → Int) : Prop where
  ma : MachAt w X g A TB N cap D (fun i => pv 63 ⟨O, i * 2, none⟩) (fun i => decide (a i = la i))
  ow : w.rowIs O t 16 (ownF a la)
  xo : X ≠ O
  to : TB ≠ O
  dO : D ≠ O
  N8 : N ≤ 8
  a0 : ∀ i, i < N → 0 ≤ a i ∧ a i ≤ la i ∧ la i ≤ 9
  lt : X < w.heap.size ∧ TB < w.heap.size
theorem OnceAt.chg {w w' : World} {X g : Nat} {A : Option Addr} {TB N cap D O : Nat} {t : TypeId} {a la : Nat → Int} (h : OnceAt w X g A TB N cap D O t a la) {S : Nat → Prop} (hC : Chg S w w') (h1 : ¬ S X) (h2 : ¬ S TB) (h3 : ¬ S D) (h4 : ¬ S O) : OnceAt w' X g A TB N cap D O t a la :=
  ⟨h.ma.same (hC.block _ h.lt.1 h1) (hC.block _ h.lt.2 h2) (hC.block _ h.ma.dn.lt h3), h.ow.of_block (hC.block _ h.ow.lt h4), h.xo, h.to, h.dO, h.N8, h.a0, by have := h.lt; have := hC.size; omega⟩
set_option maxHeartbeats 1000000 in
theorem once_do {X g : Nat} {A : Option Addr} {TB N cap D O : Nat} {t : TypeId} {a la : Nat → Int} (i : Nat) (w : World) (h : OnceAt w X g A TB N cap D O t a la) (hi : i < N) (hd : a i ≠ la i) :
    Calls Tryd.prog 14 #[.pointer (some ⟨X, 0, none⟩), .int .i64 i] w fun e w' => e = .returned (.int .i64 0) ∧ OnceAt w' X g A TB N cap D O t (upd a i (a i + 1)) la ∧ Chg (fun k => k = O ∨ k = D) w w' := by
  have h8 := h.N8
  obtain ⟨b0, b1, b2⟩ := h.a0 i hi
  have c0 := h.ow.cell (i := i * 2) (by omega)
  have c1 := h.ow.cell (i := i * 2 + 1) (by omega)
  rw [ownF_a] at c0
  rw [ownF_la] at c1
  have hw : ∀ w1, LoneP O (i * 2) (a i) w.drew w1 → Chg (fun k => k = O) w w1 ∧ w1.rowIs O t 16 (ownF (upd a i (a i + 1)) la) := fun w1 ⟨k, e⟩ => by
    subst e
    refine ⟨⟨?_, ?_, ?_, ?_, ?_⟩, ?_⟩
    · exact (below_drewN (Below.refl 0 _) k).os
    · exact (below_drewN (Below.refl 0 _) k).tape
    · exact (below_drewN (Below.refl 0 _) k).output
    · rw [heap_drewN]; simp
    · intro j _ hj
      rw [heap_drewN]
      exact Below.heap_setCell w.drew _ _ _ hj
    · refine World.rowIs.of_block (w := w.drew.setCell ⟨O, i * 2, none⟩ (.int .i64 (a i + 1))) ?_ (by rw [heap_drewN])
      exact ((h.ow.drew).set (i * 2) _).congr fun j _ => ownF_seta a la i _ j
  have hma : ∀ w1, LoneP O (i * 2) (a i) w.drew w1 → MachAt w1 X g A TB N cap D (fun i => pv 63 ⟨O, i * 2, none⟩) (fun i => decide (a i = la i)) := fun w1 hP => by
    obtain ⟨hC, _⟩ := hw w1 hP
    exact h.ma.same (hC.block _ h.lt.1 h.xo) (hC.block _ h.lt.2 h.to) (hC.block _ h.ma.dn.lt h.dO)
  refine (pick_do i 63 56 ⟨O, i * 2, none⟩ (decide (a i + 1 = la i)) (LoneP O (i * 2) (a i) w.drew) w h.ma (by omega) hi rfl (decide_eq_false hd) (method56 _) enters56 hma
    (lone_any O (i * 2) (a i) (la i) w.drew c0 c1 (h.ow.frozen _) b0 (by omega) _)).mono ?_
  rintro e w' ⟨rfl, w1, hP, rfl⟩
  obtain ⟨hC, hrow⟩ := hw w1 hP
  have hm1 := hma w1 hP
  have hC2 : Chg (fun k => k = O ∨ k = D) w w1 := hC.mono fun k e => .inl e
  have hl := h.lt
  have hs := hC.size
  have ha : ∀ j, j < N → 0 ≤ upd a i (a i + 1) j ∧ upd a i (a i + 1) j ≤ la j ∧ la j ≤ 9 := fun j hj => by
    by_cases e : j = i
    · subst e; rw [upd_same]; omega
    · rw [upd_other e]; exact h.a0 j hj
  refine ⟨rfl, ?_, ?_⟩
  · by_cases hr : a i + 1 = la i
    · rw [if_pos (by simpa using hr)]
      refine ⟨(hm1.set i).congr fun j hj => ?_, hrow.setOther (fun e => h.dO e.symm) _, h.xo, h.to, h.dO, h.N8, ha, by simp; omega⟩
      by_cases e : j = i
      · subst e; rw [upd_same, upd_same, decide_eq_true hr]
      · rw [upd_other e, upd_other e]
    · rw [if_neg (by simpa using hr)]
      refine ⟨hm1.congr fun j hj => ?_, hrow, h.xo, h.to, h.dO, h.N8, ha, by omega⟩
      by_cases e : j = i
      · subst e; rw [upd_same, decide_eq_false hr, decide_eq_false hd]
      · rw [upd_other e]
  · split
    · exact hC2.set (a := ⟨D, i, none⟩) (.inr rfl) _
    · exact hC2
theorem once_was {X g : Nat} {A : Option Addr} {TB N cap D O : Nat} {t : TypeId} {a la : Nat → Int} (i : Nat) (w : World) (h : OnceAt w X g A TB N cap D O t a la) (hi : i < N) (hd : a i = la i) :
    Calls Tryd.prog 14 #[.pointer (some ⟨X, 0, none⟩), .int .i64 i] w fun e w' => e = .returned (.int .i64 91) ∧ w = w' :=
  pick_was i 63 ⟨O, i * 2, none⟩ w h.ma (by have := h.N8; omega) hi rfl (decide_eq_true hd)
theorem once_none {X g : Nat} {A : Option Addr} {TB N cap D O : Nat} {t : TypeId} {a la : Nat → Int} (i : Int) (w : World) (h : OnceAt w X g A TB N cap D O t a la) (hi : ¬ (0 ≤ i ∧ i < N)) :
    Calls Tryd.prog 14 #[.pointer (some ⟨X, 0, none⟩), .int .i64 i] w fun e w' => e = .returned (.int .i64 90) ∧ w = w' :=
  pick_none i w h.ma (by have := h.N8; omega) hi
theorem OnceAt.drewN {w : World} {X g : Nat} {A : Option Addr} {TB N cap D O : Nat} {t : TypeId} {a la : Nat → Int} (h : OnceAt w X g A TB N cap D O t a la) (k : Nat) : OnceAt (w.drewN k) X g A TB N cap D O t a la :=
  h.chg (S := fun _ => False) (Chg.of_below (below_drewN (Below.refl _ _) k)) (fun e => e) (fun e => e) (fun e => e) (fun e => e)
set_option maxHeartbeats 2000000 in
set_option maxRecDepth 100000 in
theorem once_done {X g : Nat} {A : Option Addr} {TB N cap D O : Nat} {t : TypeId} {a la : Nat → Int} (i : Nat) (w : World) (h : OnceAt w X g A TB N cap D O t a la) (hi : i < N) :
    Calls Tryd.prog 17 #[.pointer (some ⟨X, 0, none⟩), .int .i64 i] w fun e w' => e = .returned (.bool (decide (a i = la i))) ∧ w = w' := by
  have hN := h.N8
  have HH := Lib.hid (has_yes i 63 ⟨O, i * 2, none⟩ w h.ma (by omega) hi rfl)
  have k2 := h.ma.x2
  have k3 := h.ma.dn.cell hi
  have h1 : (0 : Int) ≤ (i : Int) := by omega
  have h2 : (i : Int) < (N : Int) := by omega
  generalize decide (a i = la i) = d at *
  clear h
  go_enter Tryd.func17, Tryd.ntmps17
  go_wp2_with fail
  with_reducible refine HH.out.mono ?_
  rintro e w1 ⟨rfl, rfl⟩
  go_wp2_with fail
  go_ret
  exact ⟨rfl, rfl⟩
theorem quiet_add_left {P : Program} {f : FuncId} {args : Array Value} {w : World} {a n : Nat} {v : Value} (h : Calls P f args (w.drewN (a + n)) fun e w' => e = .returned v ∧ w.drewN (a + n) = w') : Calls P f args (w.drewN (a + n)) fun e w'' => e = .returned v ∧ ∃ m, w'' = w.drewN (a + m) :=
  h.mono fun _ _ ⟨he, hm⟩ => ⟨he, n, hm.symm⟩
theorem quiet_left {P : Program} {f : FuncId} {args : Array Value} {w : World} {n : Nat} {v : Value} (h : Calls P f args (w.drewN n) fun e w' => e = .returned v ∧ w.drewN n = w') : Calls P f args (w.drewN n) fun e w'' => e = .returned v ∧ ∃ m, w'' = w.drewN m :=
  h.mono fun _ _ ⟨he, hm⟩ => ⟨he, n, hm.symm⟩
/-- The append of one value to a row. -/
theorem wpList_append_one {ops : Array Oper} {rest : List Oper} {o : Oper} {a : Act} {Q : Exit → Act → World → Prop} (hgd : o.guard = none) (s x : Operand)
    (ho : o.op = .call { callee := .builtin .append, args := #[s, x], argTypes := #[29, 29] }) {w : World} {k g cap base : Nat} {xs : List Value} (u : Value) (hu : u.oneCell' = true) (hown : w.ownsRow base 32 1 (.slice (some ⟨g, 0, none⟩) k cap) k xs) (hb : base ≤ w.heap.size) (hg : g < w.heap.size) (hk : k ≤ 1000)
    (hs : a.eval s = .slice (some ⟨g, 0, none⟩) k cap) (H : Nat) (hH : w.heap.size = H) (hx : a.eval x = .slice (some ⟨H, 0, none⟩) 1 1)
    (hQ : ∀ g' cap' w2, w2.ownsRow base 32 1 (.slice (some ⟨g', 0, none⟩) (k + 1) cap') (k + 1) (xs ++ [u]) → Chg (fun x => x = g) w w2 → (g' = g ∨ w.heap.size < g') → g' < w2.heap.size → wpList Tryd.prog ops Q rest (a.put o.dst (.slice (some ⟨g', 0, none⟩) (k + 1) cap')) w2) :
    wpList Tryd.prog ops Q (o :: rest) a (w.alloc (.cells #[u] 32)) := by
  subst hH
  obtain ⟨i0, hi, hz0, hz1, hz2⟩ := info_parts info32
  have hA : Below w.heap.size w (w.alloc (.cells #[u] 32)) := (Below.refl _ _).alloc (Nat.le_refl _) _
  refine wpList_append_lies _ hgd s x 29 ho base 32 i0 .nilIface 1 16 Tryd.underlying29 hi hz0 hz1 hz2 rfl (by decide) _ k _ hs (ownsRow_same hown (hA.block _ hg)) ⟨w.heap.size, 0, none⟩ 1 1 [u] hx rfl ?_ ?_ (by decide) (by unfold maxLen; omega) (by omega) (by simp; omega) (w.heap.size + 1) (by simp) ?_
  · intro j v hv
    have hj : j = 0 := by
      rcases Nat.eq_zero_or_pos j with e | e
      · exact e
      · rw [List.getElem?_eq_none (by simp; omega)] at hv; cases hv
    subst hj
    exact al_new _ _ _ 0 _ rfl hv
  · intro v hv
    simp at hv
    subst hv
    exact hu
  · intro g' cap' w2 hown' hgrow hat hlt
    refine hQ g' cap' w2 hown' ((Chg.of_below hA).trans ⟨hgrow.os, hgrow.tape, hgrow.output, hgrow.size, fun x hx hn => hgrow.block x hx (by intro e; injection e with e; exact hn e)⟩) ?_ hlt
    rcases hat with e | e
    · injection e with e; exact .inl e.symm
    · exact .inr (by omega)
theorem row_vals {w : World} {base k g cap : Nat} {p : Nat → Value} (h : w.ownsRow base 32 1 (.slice (some ⟨g, 0, none⟩) k cap) k ((List.range k).map p)) : ValsAt w (some ⟨g, 0, none⟩) k p := fun i hi => by
  refine ⟨g, 0, rfl, ?_⟩
  rw [Nat.zero_add, World.ownsRow.cellAt h i (by omega), List.getElem?_map, List.getElem?_range hi]
  rfl
/-- The last step of a task. -/
def lst (T : Nat → Int) (j : Nat) : Int := 1 + T j % 9
theorem lst_rng (T : Nat → Int) (j : Nat) : 1 ≤ lst T j ∧ lst T j ≤ 9 := by unfold lst; omega
/-- The relation of the first loop. -/
def OnceRel1 (T : Nat → Int) (n : Nat) (w2 : World) (ts i : Value) (wr : World) : Prop :=
  ∃ k g cap la, k ≤ n ∧ i = .int .i64 ((k : Nat) : Int) ∧ ts = .slice (some ⟨g, 0, none⟩) k cap ∧ wr.rowIs w2.heap.size 62 16 (ownF (fun _ => 0) la) ∧ (∀ j, j < k → la j = lst T j) ∧
    wr.ownsRow w2.heap.size 32 1 (.slice (some ⟨g, 0, none⟩) k cap) k ((List.range k).map fun j => pv 63 ⟨w2.heap.size, j * 2, none⟩) ∧ w2.heap.size < g ∧ g < wr.heap.size ∧ Below w2.heap.size w2 wr
/-- The relation of the second one. -/
def OnceRel2 (X g b : Nat) (A : Option Addr) (TB n cap D O Q : Nat) (la : Nat → Int) (L : Nat) (w : World) (i : Value) (wr : World) : Prop :=
  ∃ (k : Nat) (a : Nat → Int), k ≤ L ∧ k ≤ 100 ∧ i = .int .i64 k ∧ OnceAt wr X g A TB n cap D O 62 a la ∧ (wr.rowIs Q 64 8 fun j => .int .i64 (a j)) ∧ MemAt wr g b 1 (fun _ => 0) 0 ∧ Below w.heap.size w wr
theorem onceRel2_next {w w1 wr : World} {X g b : Nat} {A : Option Addr} {TB n cap D O Q L k : Nat} {a la : Nat → Int} (hk : k < L) (hk2 : k < 100) (hO : OnceAt w1 X g A TB n cap D O 62 a la) (hQ : w1.rowIs Q 64 8 fun j => .int .i64 (a j)) (hM : MemAt w1 g b 1 (fun _ => 0) 0) (hB : Below w.heap.size w w1) (m : Nat) (e : wr = w1.drewN m) :
    OnceRel2 X g b A TB n cap D O Q la L w (.int .i64 ((k : Int) + 1)) wr := by
  subst e
  have hb := below_drewN (Below.refl w1.heap.size w1) m
  exact ⟨k + 1, a, by omega, by omega, by go_num, hO.drewN m, hQ.of_block (hb.block _ hQ.lt), hM.keep hb, hB.trans (hb.mono hB.size)⟩
/-- The law's own count of a task. -/
theorem once_set {w : World} {X g : Nat} {A : Option Addr} {TB N cap D O Q : Nat} {t : TypeId} {a la : Nat → Int} {a' : Nat → Int} (h : OnceAt w X g A TB N cap D O t a' la) (hQ : w.rowIs Q 64 8 fun j => .int .i64 (a j)) (i : Nat) (x : Int) (hq : Q ≠ X ∧ Q ≠ TB ∧ Q ≠ D ∧ Q ≠ O) :
    OnceAt (w.setCell ⟨Q, i, none⟩ (.int .i64 x)) X g A TB N cap D O t a' la ∧ (w.setCell ⟨Q, i, none⟩ (.int .i64 x)).rowIs Q 64 8 (fun j => .int .i64 (upd a i x j)) ∧ Chg (fun k => k = Q) w (w.setCell ⟨Q, i, none⟩ (.int .i64 x)) := by
  have hC : Chg (fun k => k = Q) w (w.setCell ⟨Q, i, none⟩ (.int .i64 x)) := (Chg.refl (S := fun k => k = Q) _).set (a := ⟨Q, i, none⟩) rfl _
  exact ⟨h.chg hC (by omega) (by omega) (by omega) (by omega), (hQ.set i _).congr fun j _ => by unfold upd; split <;> rfl, hC⟩
theorem drewN0 (w : World) : w = w.drewN 0 := rfl
end Go.Proofs.YtdhanenbcjmfkaaDoor
