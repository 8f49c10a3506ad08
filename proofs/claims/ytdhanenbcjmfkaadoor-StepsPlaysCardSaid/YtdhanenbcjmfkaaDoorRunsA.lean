/-
  Calls of two machines in one world, for StepsRuns.
-/
import Derived.Test.YtdhanenbcjmfkaaDoorSameW
import Derived.Laws.AppendOwnNone
namespace Go.Proofs.YtdhanenbcjmfkaaDoor
open Go.RowKit

/-- Two machines' numbers. -/
structure Num2 (m1 m2 : Mc) (n N : Nat) : Prop where
  n1 : m1.n = n
  n2 : m2.n = n
  N1 : m1.N = N
  N2 : m2.N = N
/-- The relation of the loop that makes the tasks. -/
def RunsRel (l : List KindA) (n : Nat) (w0 : World) (ta tb i : Value) (wr : World) : Prop :=
  ∃ k ga ca gb cb Ba Bb, k ≤ n ∧ i = .int .i64 ((k : Nat) : Int) ∧ ta = .slice (some ⟨ga, 0, none⟩) k ca ∧ tb = .slice (some ⟨gb, 0, none⟩) k cb ∧ Tks2 w0 wr k ga ca gb cb Ba Bb (kL l) (tkL l)
/-- The relation of the loop over the picks. -/
def RunsRel2 (W : World) (m1 m2 : Mc) (l : List KindA) (N : Nat) (q : Nat → Int) (L : Nat) (n i : Value) (wr : World) : Prop :=
  ∃ (k : Nat) (c : Int), k ≤ L ∧ i = .int .i64 k ∧ n = .int .i64 ((sysL l).cntI 2 N q k) ∧ Two W m1 m2 (sysL l) ((sysL l).runI 2 N q k) 0 c wr ∧ (0 ≤ c ∧ c ≤ k)
/-- The relation of the rounds. -/
def RunsRel3 (W : World) (m1 m2 : Mc) (s : Sy) (N : Nat) (M : Nat) (c1 : Int) (i : Value) (wr : World) : Prop :=
  ∃ (k : Nat) (c : Int), k ≤ M ∧ i = .int .i64 k ∧ s.count 2 N k = k ∧ Two W m1 m2 s (s.rounds 2 N k) c1 c wr ∧ (0 ≤ c ∧ c ≤ 200 + k * N)
/-- The relation of one round. -/
def RunsRel4 (W : World) (m1 m2 : Mc) (s s2 : Sy) (N : Nat) (c1 c2 : Int) (i : Value) (wr : World) : Prop :=
  ∃ (k : Nat) (c : Int), k ≤ N ∧ i = .int .i64 k ∧ Two W m1 m2 s (s2.upTo 2 k) c1 c wr ∧ (c2 ≤ c ∧ c ≤ c2 + k)
theorem runsRel2_next {W wr w1 : World} {m1 m2 : Mc} {l : List KindA} {N : Nat} {q : Nat → Int} {L k : Nat} {c c' : Int} {x : Nat} (hk : k < L) (hT : Two W m1 m2 (sysL l) (((sysL l).runI 2 N q k).pickI 2 N (q k)) 0 c' w1) (h1 : c ≤ c') (h2 : c' ≤ c + 1) (hc : 0 ≤ c ∧ c ≤ k) (_ : wr = wr) (hx : (sysL l).cntI 2 N q (k + 1) = x) :
    RunsRel2 W m1 m2 l N q L (.int .i64 x) (.int .i64 ((k : Int) + 1)) w1 := by
  subst hx
  exact ⟨k + 1, c', by omega, by go_num, rfl, hT, by omega, by omega⟩
theorem runsRel3_next {W w1 : World} {m1 m2 : Mc} {s : Sy} {N M k : Nat} {c1 c c' : Int} (hk : k < M) (hn : s.count 2 N k = k) (hz : leftN (s.rounds 2 N k).l N ≠ 0) (hT : Two W m1 m2 s ((s.rounds 2 N k).upTo 2 N) c1 c' w1) (h1 : c ≤ c') (h2 : c' ≤ c + N) (hc : 0 ≤ c ∧ c ≤ 200 + k * N) :
    RunsRel3 W m1 m2 s N M c1 (.int .i64 ((k : Int) + 1)) w1 := by
  refine ⟨k + 1, c', by omega, by go_num, by rw [Sy.count_add, Sy.count_one hz, hn], ?_, by omega, ?_⟩
  · rw [Sy.rounds_add, Sy.rounds_one hz]; exact hT
  · have e : ((k + 1 : Nat) : Int) * N = k * N + N := by rw [Int.natCast_add, Int.add_mul]; simp
    rw [e]; omega
theorem runs_end {s : Sy} {N M k : Nat} (hk : k ≤ M) (hn : s.count 2 N k = k) (hz : k = M ∨ leftN (s.rounds 2 N k).l N = 0) : s.count 2 N M = k ∧ s.rounds 2 N M = s.rounds 2 N k := by
  rcases hz with rfl | hz
  · exact ⟨hn, rfl⟩
  · obtain ⟨j, rfl⟩ : ∃ j, M = k + j := ⟨M - k, by omega⟩
    rw [Sy.count_add, Sy.rounds_add, Sy.count_done hz, Sy.rounds_done hz]
    exact ⟨by omega, rfl⟩
section
variable {W w : World} {m1 m2 : Mc} {s1 s2 : Sy} {c1 c2 : Int} {n N : Nat}
theorem two_pick2 (y : Int) (h : Two W m1 m2 s1 s2 c1 c2 w) (hm : Num2 m1 m2 n N) (hc : 0 ≤ c2 ∧ c2 ≤ 1000000) :
    Calls Tryd.prog 14 #[.pointer (some ⟨m2.X, 0, none⟩), .int .i64 y] w fun e w' => e = .returned (.int .i64 (s2.err N y)) ∧ ∃ c', c2 ≤ c' ∧ c' ≤ c2 + 1 ∧ Two W m1 m2 s1 (s2.pickI n N y) c1 c' w' := by
  have h0 := pick_any m2 s2 c2 y w h.b hc
  rw [hm.n2, hm.N2] at h0
  exact h0.mono fun e w' ⟨he, hs⟩ => ⟨he, h.two hs⟩
theorem two_left1 (h : Two W m1 m2 s1 s2 c1 c2 w) (hm : Num2 m1 m2 n N) : Calls Tryd.prog 18 #[.pointer (some ⟨m1.X, 0, none⟩)] w fun e w' => e = .returned (.int .i64 (leftN s1.l N)) ∧ w = w' := by
  have h0 := left_any m1 s1 c1 w h.a
  rw [hm.N1] at h0
  exact h0
theorem two_left2 (h : Two W m1 m2 s1 s2 c1 c2 w) (hm : Num2 m1 m2 n N) : Calls Tryd.prog 18 #[.pointer (some ⟨m2.X, 0, none⟩)] w fun e w' => e = .returned (.int .i64 (leftN s2.l N)) ∧ w = w' := by
  have h0 := left_any m2 s2 c2 w h.b
  rw [hm.N2] at h0
  exact h0
theorem two_words1 (h : Two W m1 m2 s1 s2 c1 c2 w) (hm : Num2 m1 m2 n N) (hn : n ≤ 4096) : Calls Tryd.prog 16 #[.pointer (some ⟨m1.g, 0, none⟩)] w fun e w' => ∃ d, e = .returned (.slice (some ⟨d, 0, none⟩) n n) ∧ OwnU w' d n s1.f ∧ Two W m1 m2 s1 s2 c1 c2 w' := by
  have hM := h.a.mem
  rw [hm.n1] at hM
  exact (words_any m1.g m1.b n s1.f c1 w hM hn).mono fun e w' ⟨d, he, hO, _, hB⟩ => ⟨d, he, hO, h.keep hB⟩
theorem two_words2 (h : Two W m1 m2 s1 s2 c1 c2 w) (hm : Num2 m1 m2 n N) (hn : n ≤ 4096) : Calls Tryd.prog 16 #[.pointer (some ⟨m2.g, 0, none⟩)] w fun e w' => ∃ d, e = .returned (.slice (some ⟨d, 0, none⟩) n n) ∧ OwnU w' d n s2.f ∧ Two W m1 m2 s1 s2 c1 c2 w' ∧ Below w.heap.size w w' := by
  have hM := h.b.mem
  rw [hm.n2] at hM
  exact (words_any m2.g m2.b n s2.f c2 w hM hn).mono fun e w' ⟨d, he, hO, _, hB⟩ => ⟨d, he, hO, h.keep hB, hB⟩
theorem two_run1 (A : Option Addr) (L cap : Nat) (q : Nat → Int) (h : Two W m1 m2 s1 s2 c1 c2 w) (hm : Num2 m1 m2 n N) (hA : Ints m1.own w A L q) (hL : L ≤ 1000) (hc : 0 ≤ c1) (hc2 : c1 ≤ 990000) :
    Calls Tryd.prog 19 #[.pointer (some ⟨m1.X, 0, none⟩), .slice A L cap] w fun e w' => e = .returned (.int .i64 (s1.cntI n N q L)) ∧ ∃ c', c1 ≤ c' ∧ c' ≤ c1 + L ∧ Two W m1 m2 (s1.runI n N q L) s2 c' c2 w' := by
  have h0 := run_any m1 s1 c1 A L cap q w h.a hA hL hc hc2
  rw [hm.n1, hm.N1] at h0
  exact h0.mono fun e w' ⟨he, hs⟩ => ⟨he, h.one hs⟩
theorem two_round1 (M : Nat) (h : Two W m1 m2 s1 s2 c1 c2 w) (hm : Num2 m1 m2 n N) (hM : M ≤ 1000) (hN : N ≤ 20) (hc : 0 ≤ c1) (hc2 : c1 ≤ 900000) :
    Calls Tryd.prog 20 #[.pointer (some ⟨m1.X, 0, none⟩), .int .i64 M] w fun e w' => e = .returned (.int .i64 (s1.count n N M)) ∧ ∃ c', c1 ≤ c' ∧ Two W m1 m2 (s1.rounds n N M) s2 c' c2 w' := by
  have h0 := round_any m1 s1 c1 M w h.a hM (by rw [hm.N1]; exact hN) hc hc2
  rw [hm.n1, hm.N1] at h0
  exact h0.mono fun e w' ⟨he, hs⟩ => by
    obtain ⟨c', q1, _, q3⟩ := h.one hs
    exact ⟨he, c', q1, q3⟩
end
theorem newM_below {g n : Nat} {p : Nat → Value} {w w' : World} {e : Ending} (h : NewM g n p w e w') : Below w.heap.size w w' := by
  obtain ⟨_, _, _, _, _, _, _, _, _, _, _, _, hB⟩ := h
  exact hB
theorem pickI_nat {n N j : Nat} {s : Sy} (h : j < N) : s.pickI n N (j : Int) = s.pick n j := by
  unfold Sy.pickI isT
  rw [if_pos (decide_eq_true (by omega))]
  rfl
/-- A copy of the picks. -/
theorem ints_own {S : Nat → Prop} {w : World} {base : Nat} {v : Value} {L : Nat} {q : Nat → Int} (h : w.ownsRow base 3 1 v L ((List.range L).map fun i => .int .i64 (q i))) (hS : ∀ x, S x → x < base) : ∃ A cap, v = .slice A L cap ∧ Ints S w A L q := by
  rcases h.2 with ⟨rfl, rfl⟩ | ⟨g, cap, cur, rfl, hg, _, _, _, _, _⟩
  · exact ⟨none, 0, rfl, fun i hi => absurd hi (by omega)⟩
  · refine ⟨_, cap, rfl, fun i hi => ⟨g, 0, rfl, fun hs => by have := hS g hs; omega, ?_⟩⟩
    rw [Nat.zero_add, World.ownsRow.cellAt h i (by omega), List.getElem?_map, List.getElem?_range hi]
    rfl
theorem info3 : (Tryd.prog.info? 3).map (fun i => (i.zero, i.size, i.bytes)) = some (some (.int .i64 0), 1, 8) := by kernel_rfl
/-- The append of the picks to an empty list. -/
theorem wpList_append_picks {ops : Array Oper} {rest : List Oper} {o : Oper} {a : Act} {Q : Exit → Act → World → Prop} (hgd : o.guard = none) (s x : Operand)
    (ho : o.op = .call { callee := .builtin .append, args := #[s, x], argTypes := #[23, 23] }) {w : World} {H L cp : Nat} {P : Option Addr} {q : Nat → Int} {S : Nat → Prop} (hP : ArgN .i64 H w P L q) (hnil : P = none → cp = 0) (hL : L ≤ 1000) (hS : ∀ x, S x → x < w.heap.size)
    (hs : a.eval s = .slice (some ⟨w.heap.size, 0, none⟩) 0 0) (hx : a.eval x = .slice P L cp)
    (hQ : ∀ A' cap' w2, Ints S w2 A' L q → Below w.heap.size w w2 → wpList Tryd.prog ops Q rest (a.put o.dst (.slice A' L cap')) w2) :
    wpList Tryd.prog ops Q (o :: rest) a (w.alloc (.cells #[] 3)) := by
  obtain ⟨i0, hi, hz0, hz1, hz2⟩ := info_parts info3
  have hA : Below w.heap.size w (w.alloc (.cells #[] 3)) := (Below.refl _ _).alloc (Nat.le_refl _) _
  have hown : (w.alloc (.cells #[] 3)).ownsRow w.heap.size 3 1 (.slice (some ⟨w.heap.size, 0, none⟩) 0 0) 0 [] := World.ownsRow_lit w #[] 0 (Nat.le_refl _) (by decide) rfl
  cases P with
  | none =>
    obtain rfl : cp = 0 := hnil rfl
    have hL0 : L = 0 := by
      rcases Nat.eq_zero_or_pos L with h | h
      · exact h
      · obtain ⟨_, _, e, _⟩ := hP 0 h; cases e
    subst hL0
    refine wpList_append_own_none hgd s x 23 ho w.heap.size 3 i0 1 Tryd.underlying23 hi _ 0 [] hs hown hx ?_
    exact hQ _ _ _ (fun i hi => absurd hi (by omega)) hA
  | some ad =>
    refine wpList_append_own _ hgd s x 23 ho w.heap.size 3 i0 (.int .i64 0) 1 8 Tryd.underlying23 hi hz0 hz1 hz2 rfl (by decide) _ 0 [] hs hown ad L cp ((List.range L).map fun i => .int .i64 (q i)) hx (by simp) ?_ ?_ (by unfold maxLen; omega) (by omega) (by simp) ?_
    · intro j u hu
      have hj : j < L := by have := (List.getElem?_eq_some_iff.1 hu).1; simpa using this
      obtain ⟨b, o', e, _, hc⟩ := hP j hj
      injection e with e
      subst e
      rw [List.getElem?_map, List.getElem?_range hj] at hu
      injection hu with hu
      subst hu
      rw [add_off]
      exact kept hc hA
    · intro u hu
      obtain ⟨i, _, rfl⟩ := List.mem_map.1 hu
      rfl
    · intro v' w' hown' hgrow _
      have hO : w'.ownsRow w.heap.size 3 1 v' L ((List.range L).map fun i => .int .i64 (q i)) := by simpa using hown'
      obtain ⟨A', cap', rfl, hI⟩ := ints_own hO hS
      exact hQ A' cap' w' hI (hA.grown hgrow (by simp) (fun k hk => (World.ownsRow.lt hown k hk).1))
section
open Go.ChangeShapes Go.WideShapes Go.ChangeAt Go.Deep
variable {H : Type} {en : TypeId × Value → H} {w : World} {base b0 : Nat} {sp : Nat → Bool} {r : Reach} {v : Value} {d : DataW H} {p : List MemPlace}
theorem ints0_arg (hv : Value.okWide Tryd.prog w r b0 23 v) (h : DataW.Trod en Tryd.prog w base sp true 23 v d p) (hs : ∀ k ∈ d.weights Tryd.prog 23, k ≤ reachBytes) : ∃ (A : Option Addr) (cap : Nat) (l : List Int), v = .slice A l.length cap ∧ (A = none → cap = 0) ∧ ArgN .i64 w.heap.size w A l.length (fun i => l.getD i 0) ∧ l.length ≤ 140737488355328 := by
  obtain ⟨a, len, cap, rfl⟩ := okWide_slice Tryd.underlying23 hv
  obtain ⟨fuel, hf⟩ := h
  obtain ⟨A, cap', l, e, _, h2, h3, _, h5⟩ := ints_of hf hs
  simp [Value.cells] at e
  obtain ⟨rfl, rfl, rfl⟩ := e
  exact ⟨_, _, l, rfl, h5, argN_of h2, h3.2⟩
end
end Go.Proofs.YtdhanenbcjmfkaaDoor
