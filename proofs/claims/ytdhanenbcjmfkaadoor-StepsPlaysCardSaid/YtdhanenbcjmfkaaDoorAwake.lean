/-
  Two machines in one world; the chapter's examples.
-/
import Derived.Test.YtdhanenbcjmfkaaDoorTaskF
namespace Go.Proofs.YtdhanenbcjmfkaaDoor
open Go.RowKit

theorem load_sys (m : Mc) (s : Sy) (c : Int) (i : Nat) (w : World) (h : Sys w m s c) (hi : i < m.n) (hc : 0 ≤ c ∧ c ≤ 1000000) :
    Calls Tryd.prog 23 #[.pointer (some ⟨m.g, 0, none⟩), .int .i64 i] w fun e w' => e = .returned (.tuple #[.int .u32 (s.f i), .int .i64 0]) ∧ StepS m s c 1 w w' := by
  refine (load_yes i m.g m.b m.n s.f c w h.gok h.mem h.ok.n1 hi hc).mono ?_
  rintro e w' ⟨rfl, hM, hE⟩
  refine ⟨rfl, c + 1, by omega, Int.le_refl _, h.use (f' := s.f) (hM.congr fun j _ => setF_same s.f i j) hE, (Chg.of_else hE).mono fun k hk => hk.elim .inl fun e => .inr (.inl e)⟩
theorem load_at (m : Mc) (s : Sy) (c : Int) (i : Nat) (x : Int) (hx : x = i) (w : World) (h : Sys w m s c) (hi : i < m.n) (hc : 0 ≤ c ∧ c ≤ 1000000) :
    Calls Tryd.prog 23 #[.pointer (some ⟨m.g, 0, none⟩), .int .i64 x] w fun e w' => e = .returned (.tuple #[.int .u32 (s.f i), .int .i64 0]) ∧ StepS m s c 1 w w' := by
  subst hx; exact load_sys m s c i w h hi hc
/-- Two machines apart. -/
structure Two (w0 : World) (m1 m2 : Mc) (s1 s2 : Sy) (c1 c2 : Int) (w : World) : Prop where
  a : Sys w m1 s1 c1
  b : Sys w m2 s2 c2
  bel : Below w0.heap.size w0 w
  loa : ∀ k, m1.own k → w0.heap.size ≤ k
  lob : ∀ k, m2.own k → w0.heap.size ≤ k
  dis : ∀ k, m1.own k → ¬ m2.own k
theorem Mc.six {w : World} {m : Mc} {s : Sy} {c : Int} (h : Sys w m s c) : ∀ k, m.own k → 6 ≤ k := Mc.own_ge h.ok h.lo
theorem Two.keep {w0 w w' : World} {m1 m2 : Mc} {s1 s2 : Sy} {c1 c2 : Int} (h : Two w0 m1 m2 s1 s2 c1 c2 w) (hB : Below w.heap.size w w') : Two w0 m1 m2 s1 s2 c1 c2 w' :=
  ⟨h.a.keep hB, h.b.keep hB, h.bel.trans (hB.mono h.bel.size), h.loa, h.lob, h.dis⟩
theorem Two.one {w0 w w' : World} {m1 m2 : Mc} {s1 s2 s' : Sy} {c1 c2 d : Int} (h : Two w0 m1 m2 s1 s2 c1 c2 w) (hS : StepS m1 s' c1 d w w') : ∃ c', c1 ≤ c' ∧ c' ≤ c1 + d ∧ Two w0 m1 m2 s' s2 c' c2 w' := by
  obtain ⟨c', h1, h2, h3, h4⟩ := hS
  exact ⟨c', h1, h2, h3, h.b.else h4 h.dis h3.gok, h.bel.trans (h4.below h.loa h.bel.size), h.loa, h.lob, h.dis⟩
theorem Two.two {w0 w w' : World} {m1 m2 : Mc} {s1 s2 s' : Sy} {c1 c2 d : Int} (h : Two w0 m1 m2 s1 s2 c1 c2 w) (hS : StepS m2 s' c2 d w w') : ∃ c', c2 ≤ c' ∧ c' ≤ c2 + d ∧ Two w0 m1 m2 s1 s' c1 c' w' := by
  obtain ⟨c', h1, h2, h3, h4⟩ := hS
  exact ⟨c', h1, h2, h.a.else h4 (fun k hk hj => h.dis k hj hk) h3.gok, h3, h.bel.trans (h4.below h.lob h.bel.size), h.loa, h.lob, h.dis⟩
theorem new_one (n : Nat) (h1 : 1 ≤ n) (h2 : n ≤ 4096) (x : Int) (hx : x = n) (w : World) :
    Calls Tryd.prog 9 #[.int .i64 x] w fun e w' => ∃ g b, e = .returned (.tuple #[.pointer (some ⟨g, 0, none⟩), .int .i64 0]) ∧ MemAt w' g b n (fun _ => 0) 0 ∧ w.heap.size ≤ g ∧ w.heap.size ≤ b ∧ Below w.heap.size w w' := by
  subst hx; exact new_yes n w h1 h2
/-- The numbers of a literal. -/
def litQ (l : List Int) (i : Nat) : Int := l.getD i 0
theorem ints_lit (S : Nat → Prop) (w : World) (l : List Int) (t : TypeId) (c : Array Value) (hc : c = (l.map fun x => Value.int .i64 x).toArray) (hS : ∀ k, S k → k < w.heap.size) : Ints S (w.alloc (.cells c t)) (some ⟨w.heap.size, 0, none⟩) l.length (litQ l) := fun i hi => by
  subst hc
  refine ⟨w.heap.size, 0, rfl, fun h => by have := hS _ h; omega, al_new _ _ _ _ _ rfl ?_⟩
  simp [litQ, hi]
theorem vals_lit (w : World) (l : List Value) (t : TypeId) : ValsAt (w.alloc (.cells l.toArray t)) (some ⟨w.heap.size, 0, none⟩) l.length (fun i => l.getD i .nilIface) := fun i hi => by
  refine ⟨w.heap.size, 0, rfl, al_new _ _ _ _ _ rfl ?_⟩
  simp [hi]
theorem six_of {w : World} (h : GOk w) : 6 ≤ w.heap.size := (h 5 (by decide)).lt
/-- Two new tasks of one kind, and their machine. -/
theorem pair_sys (K : Nat) (g b : Nat) (w w1 w2 w3 w4 : World) (e : Ending) (hG : GOk w) (hM : MemAt w g b 1 (fun _ => 0) 0) (h6 : 6 ≤ g ∧ 6 ≤ b)
    (hT1 : TaskAt w1 w.heap.size (tk0 K 0 1)) (hB1 : Below w.heap.size w w1) (hz1 : w1.heap.size = w.heap.size + szT K) (hT2 : TaskAt w2 w1.heap.size (tk0 K 0 1)) (hB2 : Below w1.heap.size w1 w2) (hz2 : w2.heap.size = w1.heap.size + szT K)
    (hB3 : Below w2.heap.size w2 w3) (h : NewM g 2 (fun i => [tv K w.heap.size, tv K w1.heap.size].getD i .nilIface) w3 e w4) :
    ∃ m : Mc, e = .returned (.pointer (some ⟨m.X, 0, none⟩)) ∧ m.g = g ∧ m.n = 1 ∧ m.N = 2 ∧ Sys w4 m ⟨fun _ => tk0 K 0 1, fun _ => 0⟩ 0 ∧ Below w.heap.size w w4 ∧ ∀ k, m.own k → k = g ∨ k = b ∨ w.heap.size ≤ k := by
  have hg := hM.ltg
  have hb := hM.row.lt
  have hs3 := hB3.size
  have hBw2 := hB1.trans (hB2.mono hB1.size)
  have hBw3 := hBw2.trans (hB3.mono hBw2.size)
  have hK2 : 2 ≤ szT K := by unfold szT; split <;> omega
  obtain ⟨m, he, h1, h2, h3, h4, h5, h7, h8, h9, h10, _, _, _, hS, hB⟩ := sys_new (K := fun _ => K) (B := fun i => if i = 0 then w.heap.size else w1.heap.size) (t := fun _ => tk0 K 0 1) (f := fun _ => 0) (c := 0) (hM.keep hBw3) (by omega) (by omega) (hG.keep hBw3) h6
    (fun i hi => by
      have : i = 0 ∨ i = 1 := by omega
      rcases this with rfl | rfl <;> rfl)
    (fun i hi => by
      have : i = 0 ∨ i = 1 := by omega
      rcases this with rfl | rfl
      · exact (hT1.keep hB2).keep hB3
      · exact hT2.keep hB3)
    (fun _ _ => rfl) (fun _ _ => rfl) (fun i hi => by
      have : i = 0 ∨ i = 1 := by omega
      rcases this with rfl | rfl
      · exact ⟨hg, hb⟩
      · show g < w1.heap.size ∧ b < w1.heap.size; omega)
    (fun i j hi hj hij => by
      have : i = 0 ∨ i = 1 := by omega
      have : j = 0 ∨ j = 1 := by omega
      rcases ‹i = 0 ∨ i = 1› with rfl | rfl <;> rcases ‹j = 0 ∨ j = 1› with rfl | rfl <;> simp <;> omega) h
  refine ⟨m, he, h1, h3, h4, hS, hBw3.trans (hB.mono hBw3.size), fun k hk => ?_⟩
  rcases hk with e | e | e | e | e | ⟨i, hi, e1, _⟩
  · omega
  · omega
  · omega
  · omega
  · omega
  · rw [h5] at e1
    simp only [] at e1
    split at e1 <;> omega

def awX : Sy := ⟨fun _ => tk0 1 0 1, fun _ => 0⟩
def awY : Sy := ⟨fun _ => tk0 2 0 1, fun _ => 0⟩
def awX1 : Sy := awX.runI 1 2 (litQ [0, 1, 0, 1, 7]) 5
def awY1 : Sy := awY.runI 1 2 (litQ [0, 1, 0, 1]) 4
def awY2 : Sy := awY1.runI 1 2 (litQ [1, 1, 1]) 3
theorem aw1 : awX.cntI 1 2 (litQ [0, 1, 0, 1, 7]) 5 = 4 := by decide +kernel
theorem aw2 : awX1.f 0 = 1 := by decide +kernel
theorem aw3 : leftN awX1.l 2 = 0 := by decide +kernel
theorem aw4 : awY.cntI 1 2 (litQ [0, 1, 0, 1]) 4 = 4 := by decide +kernel
theorem aw5 : awY1.doneI 2 0 = true ∧ awY1.doneI 2 1 = false := by decide +kernel
theorem aw6 : awY1.cntI 1 2 (litQ [1, 1, 1]) 3 = 2 := by decide +kernel
theorem aw7 : awY2.f 0 = 2 := by decide +kernel
theorem aw8 : leftN awY2.l 2 = 0 := by decide +kernel
theorem aw9 : awY2.err 2 0 = 91 ∧ awY2.err 2 2 = 90 := by decide +kernel
theorem aw10 : awY2.pickI 1 2 0 = awY2 ∧ awY2.pickI 1 2 2 = awY2 := by
  have h : (awY2.l 0).done = true := by decide +kernel
  exact ⟨by unfold Sy.pickI; rw [if_pos (by decide)]; exact pick_done h, by unfold Sy.pickI; rw [if_neg (by decide)]⟩
end Go.Proofs.YtdhanenbcjmfkaaDoor
