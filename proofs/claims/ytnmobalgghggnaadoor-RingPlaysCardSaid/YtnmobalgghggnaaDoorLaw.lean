/-
  What the statements' loops keep.
-/
import Derived.Test.YtnmobalgghggnaaDoorBoth
namespace Go.Proofs.YtnmobalgghggnaaDoor
open Go.RowKit

/-- Numbers in a list, in blocks below H. -/
def ArgN (k : IntKind) (H : Nat) (w : World) (A : Option Addr) (n : Nat) (q : Nat → Int) : Prop := ∀ i, i < n → ∃ b o, A = some ⟨b, o, none⟩ ∧ b < H ∧ w.cell? ⟨b, o + i, none⟩ = some (.int k (q i))
theorem ArgN.keep {k : IntKind} {H : Nat} {w w' : World} {A : Option Addr} {n : Nat} {q : Nat → Int} (h : ArgN k H w A n q) (hB : Below H w w') : ArgN k H w' A n q := fun i hi => by
  obtain ⟨b, o, e, hb, hc⟩ := h i hi
  exact ⟨b, o, e, hb, by rw [hB.cell (p := ⟨b, o + i, none⟩) hb]; exact hc⟩
theorem ArgN.cell {k : IntKind} {H : Nat} {w : World} {b o n : Nat} {q : Nat → Int} (h : ArgN k H w (some ⟨b, o, none⟩) n q) {i : Nat} (hi : i < n) : w.cell? ⟨b, o + i, none⟩ = some (.int k (q i)) := by
  obtain ⟨b', o', e, _, hc⟩ := h i hi
  injection e with e
  injection e with e1 e2
  subst e1 e2
  exact hc
theorem ArgN.head {k : IntKind} {H : Nat} {w : World} {A : Option Addr} {n : Nat} {q : Nat → Int} (h : ArgN k H w A n q) {i : Nat} (hi : i < n) : ∃ b o, A = some ⟨b, o, none⟩ := by
  obtain ⟨b, o, e, _⟩ := h i hi
  exact ⟨b, o, e⟩
theorem Strs.take {H : Nat} {w : World} {A : Option Addr} {L : List ByteArray} (h : Strs H w A L) (k : Nat) : Strs H w A (L.take k) := fun i hi => by
  have hl : i < L.length := by rw [List.length_take] at hi; omega
  obtain ⟨b, o, e, hb, hc⟩ := h i hl
  exact ⟨b, o, e, hb, by rw [List.getElem_take]; exact hc⟩
/-- What is fixed: the place, the sizes, the messages. -/
structure Fix (h : Int) (pl sz : Nat) (L : List ByteArray) : Prop where
  four : Four4 pl
  size : 1 ≤ sz ∧ sz ≤ 32
  ms : ∀ m ∈ L, 1 ≤ m.size ∧ m.size ≤ sz
  few : L.length ≤ 20
  hh : 0 ≤ h ∧ h < 4294967296
/-- A system whose words say what is under way. -/
def RunA (wl : World) (g B C : Nat) (h : Int) (pl sz : Nat) (L : List ByteArray) (a : Ab) (K : Int) (w : World) : Prop :=
  ∃ S R f, SysR wl 80 g B C S R f K w ∧ Inv h pl sz L a S R f
section
variable {wl w w' : World} {g B C : Nat} {h : Int} {pl sz : Nat} {L : List ByteArray} {a : Ab} {K : Int}
theorem RunA.keep (hR : RunA wl g B C h pl sz L a K w) (hB : Below w.heap.size w w') : RunA wl g B C h pl sz L a K w' := by
  obtain ⟨S, R, f, h1, h2⟩ := hR
  exact ⟨S, R, f, h1.keep hB, h2⟩
theorem RunA.bel (hR : RunA wl g B C h pl sz L a K w) : Below wl.heap.size wl w := by
  obtain ⟨_, _, _, h1, _⟩ := hR
  exact h1.bel
theorem RunA.more (hR : RunA wl g B C h pl sz L a K w) {K' : Int} (hK : K ≤ K') : RunA wl g B C h pl sz L a K' w := by
  obtain ⟨S, R, f, ⟨m, c, h1, h2, h3⟩, h4⟩ := hR
  exact ⟨S, R, f, ⟨m, c, h1, by omega, h3⟩, h4⟩
theorem RunA.sent_le (hR : RunA wl g B C h pl sz L a K w) : a.sent.length ≤ L.length := by
  obtain ⟨S, R, f, h1, h2⟩ := hR
  have := h1.SW.k
  rw [h2.sc.2.2.2.1, h2.sc.2.2.2.2.1] at this
  exact this
theorem RunA.got_le (hR : RunA wl g B C h pl sz L a K w) : a.got.length ≤ 40 := by
  obtain ⟨S, R, f, h1, h2⟩ := hR
  have := h1.RW.k
  rw [h2.rc.2.2.2.1, h2.rc.2.2.2.2.1] at this
  exact this
theorem RunA.ht (hR : RunA wl g B C h pl sz L a K w) : a.H ≤ a.T L ∧ a.T L ≤ a.H + pl := by
  obtain ⟨S, R, f, h1, h2⟩ := hR
  exact h2.ht
theorem RunA.pre (hR : RunA wl g B C h pl sz L a K w) : a.inn = (a.out L).take a.H := by
  obtain ⟨S, R, f, h1, h2⟩ := hR
  exact h2.pre
theorem RunA.sp_le (hR : RunA wl g B C h pl sz L a K w) : a.sp ≤ 5 := by
  obtain ⟨S, R, f, h1, h2⟩ := hR
  have := h1.SW.ph
  rw [h2.sc.2.2.2.2.2] at this
  exact this
theorem ra_s (hF : Fix h pl sz L) (hR : RunA wl g B C h pl sz L a K w) (hK : K ≤ 1000000) : Calls Tryd.prog 19 #[.pointer (some ⟨B, 0, none⟩), .pointer (some ⟨g, 0, none⟩)] w fun e w' => e = .returned (.bool (decide (5 ≤ (a.stepS L pl).sp))) ∧ RunA wl g B C h pl sz L (a.stepS L pl) (K + 1) w' := by
  obtain ⟨S, R, f, h1, h2⟩ := hR
  have h3 := inv_s h2 h1.SW hF.four hF.size.2 hF.ms
  refine (run_s h1 hK).mono ?_
  rintro e w' ⟨he, hs⟩
  rw [h3.sc.2.2.2.2.2] at he
  exact ⟨he, _, _, _, hs, h3⟩
theorem ra_r (hF : Fix h pl sz L) (hR : RunA wl g B C h pl sz L a K w) (hK : K ≤ 1000000) : Calls Tryd.prog 20 #[.pointer (some ⟨C, 0, none⟩), .pointer (some ⟨g, 0, none⟩)] w fun e w' => e = .returned (.bool (decide (5 ≤ (a.stepR L).rp))) ∧ RunA wl g B C h pl sz L (a.stepR L) (K + 1) w' := by
  obtain ⟨S, R, f, h1, h2⟩ := hR
  have h3 := inv_r h2 h1.SW h1.RW hF.four hF.size.2 hF.ms
  refine (run_r h1 hK).mono ?_
  rintro e w' ⟨he, hs⟩
  rw [h3.rc.2.2.2.2.2] at he
  exact ⟨he, _, _, _, hs, h3⟩
theorem ra_sent (hR : RunA wl g B C h pl sz L a K w) : Calls Tryd.prog 14 #[.pointer (some ⟨B, 0, none⟩)] w fun e w' => TellP 4 (a.sent.map Value.bool) w e w' := by
  obtain ⟨S, R, f, h1, h2⟩ := hR
  rw [← h2.sc.2.2.2.2.1]
  exact run_sent h1
theorem ra_got (hR : RunA wl g B C h pl sz L a K w) : Calls Tryd.prog 15 #[.pointer (some ⟨C, 0, none⟩)] w fun e w' => TellP 9 (a.got.map Value.string) w e w' := by
  obtain ⟨S, R, f, h1, h2⟩ := hR
  rw [← h2.rc.2.2.2.2.1]
  exact run_got h1
/-- What was sent and received, as the statement asks. -/
theorem ra_passed {A : Option Addr} {n cA ns ng d1 d2 : Nat} (hR : RunA wl g B C h pl sz L a K w) (hL : Strs wl.heap.size wl A L) (hfew : L.length ≤ 20) (hS : RowL w d1 4 (a.sent.map Value.bool)) (hG : RowL w d2 9 (a.got.map Value.string)) (hn : n = L.length) (hns : ns = a.sent.length) (hng : ng = a.got.length) :
    Calls Tryd.prog 26 #[.slice A n cA, .slice (some ⟨d1, 0, none⟩) ns ns, .slice (some ⟨d2, 0, none⟩) ng ng] w fun e w' => PassP (a.out L) a.inn w e w' := by
  have h1 := hR.sent_le
  have h2 := hR.got_le
  have h3 := hR.bel
  subst hns hng
  exact passed_any A _ _ L a.sent a.got n _ _ _ _ _ w ((hL.keep h3).up h3.size) hS.bools hG.strs hn rfl rfl (by omega) (by omega)
end
end Go.Proofs.YtnmobalgghggnaaDoor
