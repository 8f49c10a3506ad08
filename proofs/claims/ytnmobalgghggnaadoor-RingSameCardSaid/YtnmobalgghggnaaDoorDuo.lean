/-
  Two systems in one world.
-/
import Derived.Test.YtnmobalgghggnaaDoorLaw
namespace Go.Proofs.YtnmobalgghggnaaDoor
open Go.RowKit

/-- A system's blocks lie at or behind a number; its words say what is under way. -/
def OneA (N : Nat) (o : Nat → Prop) (g B C : Nat) (h : Int) (pl sz : Nat) (L : List ByteArray) (a : Ab) (K : Int) (w : World) : Prop :=
  ∃ m c S R f, SysAt w 80 m S R f c ∧ c ≤ K ∧ m.g = g ∧ m.B = B ∧ m.C = C ∧ (∀ k, m.own k ↔ o k) ∧ (∀ k, m.own k → N ≤ k) ∧ Inv h pl sz L a S R f
/-- Two systems. -/
def Duo (N : Nat) (w0 : World) (g B C g' B' C' : Nat) (h h' : Int) (pl sz : Nat) (L : List ByteArray) (a a' : Ab) (K : Int) (w : World) : Prop :=
  ∃ o o', OneA N o g B C h pl sz L a K w ∧ OneA N o' g' B' C' h' pl sz L a' K w ∧ (∀ k, o k → ¬ o' k) ∧ Below N w0 w ∧ N ≤ w0.heap.size
section
variable {N g B C g' B' C' pl sz : Nat} {w0 w w' : World} {h h' : Int} {L : List ByteArray} {a a' : Ab} {K : Int} {o o' : Nat → Prop}
theorem OneA.more (hO : OneA N o g B C h pl sz L a K w) {K' : Int} (hK : K ≤ K') : OneA N o g B C h pl sz L a K' w := by
  obtain ⟨m, c, S, R, f, h1, h2, h3⟩ := hO
  exact ⟨m, c, S, R, f, h1, by omega, h3⟩
theorem OneA.lt (hO : OneA N o g B C h pl sz L a K w) : ∀ k, o k → k < w.heap.size := fun k hk => by
  obtain ⟨m, c, S, R, f, h1, _, _, _, _, h6, _⟩ := hO
  exact h1.lt k ((h6 k).2 hk)
theorem OneA.ge (hO : OneA N o g B C h pl sz L a K w) : ∀ k, o k → N ≤ k := fun k hk => by
  obtain ⟨m, c, S, R, f, h1, _, _, _, _, h6, h7, _⟩ := hO
  exact h7 k ((h6 k).2 hk)
theorem OneA.G (hO : OneA N o g B C h pl sz L a K w) : GOk w := by
  obtain ⟨m, c, S, R, f, h1, _⟩ := hO
  exact h1.G
theorem OneA.chg (hO : OneA N o g B C h pl sz L a K w) {X : Nat → Prop} (hC : Chg X w w') (hK : ∀ k, o k → ¬ X k) (hG : GOk w') : OneA N o g B C h pl sz L a K w' := by
  obtain ⟨m, c, S, R, f, h1, h2, h3, h4, h5, h6, h7⟩ := hO
  exact ⟨m, c, S, R, f, h1.chg hC (fun k hk => hK k ((h6 k).1 hk)) hG, h2, h3, h4, h5, h6, h7⟩
theorem OneA.keep (hO : OneA N o g B C h pl sz L a K w) (hB : Below w.heap.size w w') : OneA N o g B C h pl sz L a K w' := by
  obtain ⟨m, c, S, R, f, h1, h3⟩ := hO
  exact ⟨m, c, S, R, f, h1.keep hB, h3⟩
/-- The run of one alone. -/
theorem OneA.run (hO : OneA N o g B C h pl sz L a K w) : ∃ wl, RunA wl g B C h pl sz L a K w := by
  obtain ⟨m, c, S, R, f, h1, h2, h3, h4, h5, h6, h7, h8⟩ := hO
  refine ⟨{ w with heap := #[] }, S, R, f, ⟨m, c, h1, h2, h3, h4, h5, ⟨rfl, rfl, rfl, Nat.zero_le _, fun k hk => absurd hk (Nat.not_lt_zero _)⟩, fun k _ => Nat.zero_le _⟩, h8⟩
theorem OneA.step {m : Blk} {c : Int} {S : Sd} {R : Rv} {f : Nat → Int} (h : StepA 80 m S R f c w w') (h2 : c ≤ K) (h3 : m.g = g) (h4 : m.B = B) (h5 : m.C = C) (h6 : ∀ k, m.own k ↔ o k) (h7 : ∀ k, m.own k → N ≤ k) (hN : N ≤ w.heap.size) (h8 : Inv h' pl sz L a S R f) : ∃ o1, OneA N o1 g B C h' pl sz L a (K + 1) w' ∧ Chg o w w' ∧ ∀ k, o1 k → o k ∨ w.heap.size ≤ k := by
  obtain ⟨m', c', k1, _, k2, k3, k4, k5, k6, k7⟩ := h
  refine ⟨m'.own, ⟨m', c', S, R, f, k1, by omega, k3.trans h3, k4.trans h4, k5.trans h5, fun _ => Iff.rfl, fun k hk => ?_, h8⟩, k6.mono fun k hk => (h6 k).1 hk, fun k hk => ?_⟩
  · rcases k7 k hk with e | e
    · exact h7 k e
    · omega
  · rcases k7 k hk with e | e
    · exact .inl ((h6 k).1 e)
    · exact .inr e
theorem Duo.swap (hD : Duo N w0 g B C g' B' C' h h' pl sz L a a' K w) : Duo N w0 g' B' C' g B C h' h pl sz L a' a K w := by
  obtain ⟨o, o', h1, h2, h3, h4, h5⟩ := hD
  exact ⟨o', o, h2, h1, fun k x y => h3 k y x, h4, h5⟩
theorem Duo.keep (hD : Duo N w0 g B C g' B' C' h h' pl sz L a a' K w) (hB : Below w.heap.size w w') : Duo N w0 g B C g' B' C' h h' pl sz L a a' K w' := by
  obtain ⟨o, o', h1, h2, h3, h4, h5⟩ := hD
  exact ⟨o, o', h1.keep hB, h2.keep hB, h3, h4.trans (hB.mono (Nat.le_trans h5 h4.size)), h5⟩
theorem Duo.bel (hD : Duo N w0 g B C g' B' C' h h' pl sz L a a' K w) : Below N w0 w := by
  obtain ⟨o, o', h1, h2, h3, h4, h5⟩ := hD
  exact h4
theorem Duo.run (hD : Duo N w0 g B C g' B' C' h h' pl sz L a a' K w) : ∃ wl, RunA wl g B C h pl sz L a K w := by
  obtain ⟨o, o', h1, h2, h3, h4, h5⟩ := hD
  exact h1.run
theorem Duo.go {a1 : Ab} {o1 : Nat → Prop} (h1 : OneA N o1 g B C h pl sz L a1 (K + 1) w') (hC : Chg o w w') (hn : ∀ k, o1 k → o k ∨ w.heap.size ≤ k) (h2 : OneA N o' g' B' C' h' pl sz L a' K w) (h3 : ∀ k, o k → ¬ o' k) (h0 : ∀ k, o k → N ≤ k) (h4 : Below N w0 w) (h5 : N ≤ w0.heap.size) : Duo N w0 g B C g' B' C' h h' pl sz L a1 a' (K + 1) w' := by
  refine ⟨o1, o', h1, (h2.chg hC (fun k x y => h3 k y x) h1.G).more (by omega), fun k hk hk' => ?_, h4.trans (hC.below h0 (Nat.le_trans h5 h4.size)), h5⟩
  rcases hn k hk with e | e
  · exact h3 k e hk'
  · have := h2.lt k hk'
    omega
/-- A step of the first's sender. -/
theorem duo_s (hF : Fix h pl sz L) (hD : Duo N w0 g B C g' B' C' h h' pl sz L a a' K w) (hK : K ≤ 1000000) : Calls Tryd.prog 19 #[.pointer (some ⟨B, 0, none⟩), .pointer (some ⟨g, 0, none⟩)] w fun e w' => e = .returned (.bool (decide (5 ≤ (a.stepS L pl).sp))) ∧ Duo N w0 g B C g' B' C' h h' pl sz L (a.stepS L pl) a' (K + 1) w' := by
  obtain ⟨o, o', ⟨m, c, S, R, f, h1, h2, h3, h4, h5, h6, h7, h8⟩, hO, hd, hb, hn⟩ := hD
  have hi := inv_s h8 h1.SW hF.four hF.size.2 hF.ms
  subst h3 h4 h5
  refine (sys_s h1 (by omega)).mono ?_
  rintro e w' ⟨he, hs⟩
  rw [hi.sc.2.2.2.2.2] at he
  obtain ⟨o1, k1, k2, k3⟩ := OneA.step hs h2 rfl rfl rfl h6 h7 (Nat.le_trans hn hb.size) hi
  exact ⟨he, Duo.go k1 k2 k3 hO hd (fun k hk => h7 k ((h6 k).2 hk)) hb hn⟩
theorem duo_r (hF : Fix h pl sz L) (hD : Duo N w0 g B C g' B' C' h h' pl sz L a a' K w) (hK : K ≤ 1000000) : Calls Tryd.prog 20 #[.pointer (some ⟨C, 0, none⟩), .pointer (some ⟨g, 0, none⟩)] w fun e w' => e = .returned (.bool (decide (5 ≤ (a.stepR L).rp))) ∧ Duo N w0 g B C g' B' C' h h' pl sz L (a.stepR L) a' (K + 1) w' := by
  obtain ⟨o, o', ⟨m, c, S, R, f, h1, h2, h3, h4, h5, h6, h7, h8⟩, hO, hd, hb, hn⟩ := hD
  have hi := inv_r h8 h1.SW h1.RW hF.four hF.size.2 hF.ms
  subst h3 h4 h5
  refine (sys_r h1 (by omega)).mono ?_
  rintro e w' ⟨he, hs⟩
  rw [hi.rc.2.2.2.2.2] at he
  obtain ⟨o1, k1, k2, k3⟩ := OneA.step hs h2 rfl rfl rfl h6 h7 (Nat.le_trans hn hb.size) hi
  exact ⟨he, Duo.go k1 k2 k3 hO hd (fun k hk => h7 k ((h6 k).2 hk)) hb hn⟩
theorem duo_sent (hD : Duo N w0 g B C g' B' C' h h' pl sz L a a' K w) : Calls Tryd.prog 14 #[.pointer (some ⟨B, 0, none⟩)] w fun e w' => TellP 4 (a.sent.map Value.bool) w e w' := by
  obtain ⟨wl, hR⟩ := hD.run
  exact ra_sent hR
theorem duo_got (hD : Duo N w0 g B C g' B' C' h h' pl sz L a a' K w) : Calls Tryd.prog 15 #[.pointer (some ⟨C, 0, none⟩)] w fun e w' => TellP 9 (a.got.map Value.string) w e w' := by
  obtain ⟨wl, hR⟩ := hD.run
  exact ra_got hR
theorem Duo.few (hD : Duo N w0 g B C g' B' C' h h' pl sz L a a' K w) (hL : L.length ≤ 20) : a.sent.length ≤ 20 ∧ a.got.length ≤ 40 := by
  obtain ⟨wl, hR⟩ := hD.run
  exact ⟨Nat.le_trans hR.sent_le hL, hR.got_le⟩
/-- The first of two is there already. -/
theorem one_of {wl : World} {f : Nat → Int} (hF : Fix h pl sz L) (hS : SysR wl 80 g B C (sd0 0 pl sz L) (rv0 0 pl sz 40) f 1000 w) (h0 : f 0 = h) (h1 : f 1 = h) : ∃ o, OneA wl.heap.size o g B C h pl sz L (ab0 L) 1000 w := by
  obtain ⟨m, c, k1, k2, k3, k4, k5, k6, k7⟩ := hS
  exact ⟨m.own, m, c, _, _, _, k1, k2, k3, k4, k5, fun _ => Iff.rfl, k7, inv_0 h0 h1 hF.hh hF.four⟩
/-- Two made one behind the other. -/
theorem duo_of {w2 : World} {n1 n2 : Nat} (h1 : OneA n1 o g B C h pl sz L a K w0) (hB : Below w0.heap.size w0 w2) (h2 : OneA n2 o' g' B' C' h' pl sz L a K w2) (hn : w0.heap.size ≤ n2) (h0 : n1 ≤ w0.heap.size) : Duo n1 w0 g B C g' B' C' h h' pl sz L a a K w2 := by
  refine ⟨o, o', h1.keep hB, ?_, fun k hk hk' => ?_, hB.mono h0, h0⟩
  · obtain ⟨m, c, S, R, f, k1, k2, k3, k4, k5, k6, k7, k8⟩ := h2
    exact ⟨m, c, S, R, f, k1, k2, k3, k4, k5, k6, fun k hk => by have := k7 k hk; omega, k8⟩
  · have := h1.lt k hk
    have := h2.ge k hk'
    omega
end
end Go.Proofs.YtnmobalgghggnaaDoor
