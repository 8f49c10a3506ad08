/-
  Two machines of takers beside each other.
-/
import Derived.Test.YtdegfadahlcgnaaDoorOrd
import Derived.Deep.QuietTactic
import Derived.BigQuiet
namespace Go.Proofs.YtdegfadahlcgnaaDoor
open Go.RowKit

/-- Two machines apart, of which alone something changes. -/
structure Pair (m1 m2 : Mc) (w0 : World) (s1 s2 : Sy) (c1 c2 : Int) (w : World) : Prop where
  a : Sys w m1 s1 c1
  b : Sys w m2 s2 c2
  ch : Chg (fun x => m1.own x ∨ m2.own x) w0 w
  dis : ∀ k, m1.own k → ¬ m2.own k
section
variable {m1 m2 : Mc} {w0 w w' : World} {s1 s2 s' : Sy} {c1 c2 d : Int}
theorem Pair.keep (h : Pair m1 m2 w0 s1 s2 c1 c2 w) (hB : Below w.heap.size w w') : Pair m1 m2 w0 s1 s2 c1 c2 w' :=
  ⟨h.a.keep hB, h.b.keep hB, h.ch.trans (Chg.of_below hB), h.dis⟩
theorem Pair.one (h : Pair m1 m2 w0 s1 s2 c1 c2 w) (hS : StepS m1 s' c1 d w w') : ∃ c', (c1 ≤ c' ∧ c' ≤ c1 + d) ∧ Pair m1 m2 w0 s' s2 c' c2 w' := by
  obtain ⟨c', h1, h2, h3, h4⟩ := hS
  exact ⟨c', ⟨h1, h2⟩, h3, h.b.else h4 h.dis h3.gok, h.ch.trans (h4.mono fun _ => .inl), h.dis⟩
theorem Pair.two (h : Pair m1 m2 w0 s1 s2 c1 c2 w) (hS : StepS m2 s' c2 d w w') : ∃ c', (c2 ≤ c' ∧ c' ≤ c2 + d) ∧ Pair m1 m2 w0 s1 s' c1 c' w' := by
  obtain ⟨c', h1, h2, h3, h4⟩ := hS
  exact ⟨c', ⟨h1, h2⟩, h.a.else h4 (fun k hk hj => h.dis k hj hk) h3.gok, h3, h.ch.trans (h4.mono fun _ => .inr), h.dis⟩
theorem Pair.below {H : Nat} (h : Pair m1 m2 w0 s1 s2 c1 c2 w) (h1 : ∀ k, m1.own k → H ≤ k) (h2 : ∀ k, m2.own k → H ≤ k) (hH : H ≤ w0.heap.size) : Below H w0 w := h.ch.below (fun k hk => hk.elim (h1 k) (h2 k)) hH
end
theorem pick_n (m : Mc) (N : Nat) (hn : m.n = 3) (hN : m.N = N) (s : Sy) (c : Int) (i : Int) (w : World) (h : Sys w m s c) (hc : 0 ≤ c ∧ c ≤ 1000000) :
    Calls Tryd.prog 23 #[.pointer (some ⟨m.X, 0, none⟩), .int .i64 i] w fun e w' => e = .returned (.int .i64 (s.err N i)) ∧ StepS m (s.pickI 3 N i) c 1 w w' := by
  subst hN; rw [← hn]; exact pick_any m s c i w h hc
theorem left_n (m : Mc) (N : Nat) (hN : m.N = N) (s : Sy) (c : Int) (w : World) (h : Sys w m s c) :
    Calls Tryd.prog 26 #[.pointer (some ⟨m.X, 0, none⟩)] w fun e w' => e = .returned (.int .i64 (leftN s.l N)) ∧ w = w' := by subst hN; exact left_any m s c w h
theorem Both.runI {q q' S : Int} {N : Nat} {s s' : Sy} (h : Both q q' S N s s') (hS : S ≤ 1000) (hN : N ≤ 1000) (p : Nat → Int) : ∀ k, Both q q' S N (s.runI 3 N p k) (s'.runI 3 N p k)
  | 0 => h
  | k + 1 => (Both.runI h hS hN p k).pickI hS hN (p k)
theorem both0 (N : Nat) (T : Nat → Int) (q q' : Int) (hq : 0 ≤ q ∧ q < 4294967296) (hq' : 0 ≤ q' ∧ q' < 4294967296) : Both q q' (sumN (tm T) N) N (sy0 T q) (sy0 T q') := ⟨_, rel0 N T q hq, rel0 N T q' hq', inv00 N T⟩
theorem ArgN.up {k : IntKind} {H H' : Nat} {w w' : World} {A : Option Addr} {n : Nat} {q : Nat → Int} (h : ArgN k H w A n q) (hB : Below H w w') (hH : H ≤ H') : ArgN k H' w' A n q := fun i hi => by
  obtain ⟨b, o, e, hb, hc⟩ := h.keep hB i hi
  exact ⟨b, o, e, by omega, hc⟩
/-- A callee that only reads, in a world that drew. -/
theorem quiet_mine {P : Program} {f : FuncId} {args : Array Value} {w : World} {n : Nat} {v : Value}
    (h : Calls P f args (w.drewN n) fun e w' => e = .returned v ∧ w.drewN n = w') : Calls P f args (w.drewN n) fun e w'' => e = .returned v ∧ ∃ m, w'' = w.drewN m :=
  h.mono fun _ _ ⟨he, hm⟩ => ⟨he, n, hm.symm⟩
theorem TakerAt.drewN {w : World} {B : Nat} {t : Tk} (h : TakerAt w B t) (n : Nat) : TakerAt (w.drewN n) B t := ⟨h.c0, h.c1, h.c2, h.c3, h.c4, h.c5, h.fz, h.ub, h.ar, h.pl⟩
/-- The loop over the picks. -/
def PairRel (m1 m2 : Mc) (w0 : World) (s1 s2 : Sy) (p : Nat → Int) (L N : Nat) (i : Value) (w : World) : Prop :=
  ∃ (k : Nat) (c1 c2 : Int), k ≤ L ∧ k ≤ 200 ∧ i = .int .i64 k ∧ (2 ≤ c1 ∧ c1 ≤ 2 + 2 * k) ∧ (2 ≤ c2 ∧ c2 ≤ 2 + 2 * k) ∧ Pair m1 m2 w0 (s1.runI 3 N p k) (s2.runI 3 N p k) c1 c2 w
/-- Two numbers less what they began with. -/
theorem sub_same {x y q q' : Int} (h : (x - q) % 4294967296 = (y - q') % 4294967296) : IntKind.u32.wrap (x - q) = IntKind.u32.wrap (y - q') := by
  rw [IntKind.wrap_u32', IntKind.wrap_u32']; exact h
end Go.Proofs.YtdegfadahlcgnaaDoor
