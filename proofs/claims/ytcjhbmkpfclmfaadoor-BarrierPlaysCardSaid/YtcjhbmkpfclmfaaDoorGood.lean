/-
  What is known of waiters of one barrier, whatever was picked; the loop of picks.
-/
import Derived.Test.YtcjhbmkpfclmfaaDoorAwk
namespace Go.Proofs.YtcjhbmkpfclmfaaDoor
open Go.RowKit

def Good (N A : Nat) (R : Int) (s : Sy) : Prop := ∃ r, Inv N A R r s
theorem Good.runI {N A m : Nat} {R : Int} {s : Sy} (h : Good N A R s) (hA : A + 1 < m) (p : Nat → Int) : ∀ k, Good N A R (s.runI m N p k)
  | 0 => h
  | k + 1 => Inv.pickI hA (Good.runI h hA p k) (p k)
theorem good0 {N A : Nat} {R : Int} (hN : 1 ≤ N ∧ N ≤ 8) (hR : 0 ≤ R ∧ R ≤ 1000) : Good N A R (sy0 N A R) := ⟨0, inv0 hN hR⟩
theorem TakerAt.drewN {w : World} {B : Nat} {t : Tk} (h : TakerAt w B t) (k : Nat) : TakerAt (w.drewN k) B t := h.keep (below_drewN (Below.refl _ _) k)
theorem quiet_mine {f : FuncId} {args : Array Value} {w : World} {n : Nat} {v : Value} (h : Calls Tryd.prog f args (w.drewN n) fun e w' => e = .returned v ∧ w.drewN n = w') : Calls Tryd.prog f args (w.drewN n) fun e w'' => e = .returned v ∧ ∃ m, w'' = w.drewN m :=
  h.mono fun _ _ ⟨he, hw⟩ => ⟨he, n, hw.symm⟩
/-- The relation of the loop of picks. -/
def PickRel (m : Mc) (s : Sy) (c d : Int) (p : Nat → Int) (L : Nat) (w : World) (i : Value) (wr : World) : Prop :=
  ∃ k : Nat, k ≤ L ∧ k ≤ 300 ∧ i = .int .i64 k ∧ StepS m (s.runI m.n m.N p k) c (d * k) w wr
theorem pickRel_next {m : Mc} {s : Sy} {c d c1 c2 : Int} {p : Nat → Int} {k L : Nat} {w wr w2 : World} (hk : k < L) (hk2 : k < 300) (h1 : c ≤ c1 ∧ c1 ≤ c + d * k) (hC : Chg m.own w wr) (h2 : c1 ≤ c2 ∧ c2 ≤ c1 + d)
    (hS : Sys w2 m (s.runI m.n m.N p (k + 1)) c2) (hC2 : Chg m.own wr w2) : PickRel m s c d p L w (.int .i64 ((k : Int) + 1)) w2 := by
  have e : d * ((k + 1 : Nat) : Int) = d * k + d := by rw [Int.natCast_add, Int.mul_add]; simp
  exact ⟨k + 1, by omega, by omega, by go_num, c2, by omega, by rw [e]; omega, hS, hC.trans hC2⟩
/-- The list of waiters is there as long as only the machine's blocks change. -/
theorem Made.at {w w' wr : World} {m : Mc} {n : Nat} {R : Int} {ga : Nat} (h : Made w w' m n R ga) (hC : Chg m.own w' wr) {i : Nat} (hi : i < m.N) : wr.cell? ⟨ga, i, none⟩ = some (pt (m.B i)) := hC.cell (h.ptr i hi) h.gan
theorem Made.keep {w w1 w' : World} {m : Mc} {n : Nat} {R : Int} {ga : Nat} (h : Made w w1 m n R ga) (hB : Below w1.heap.size w1 w') : Made w w' m n R ga :=
  ⟨h.n2, h.N1, h.sys.keep hB, h.bel.trans (hB.mono h.bel.size), h.own, fun i hi => kept (h.ptr i hi) hB, h.gan, by have := h.gal; have := hB.size; omega⟩
theorem waiters_at (n : Nat) (x R : Int) (hx : x = n) (w : World) (hG : GOk w) (h1 : 1 ≤ n) (h8 : n ≤ 8) (hR : 0 ≤ R ∧ R ≤ 1000) :
    Calls Tryd.prog 18 #[.int .i64 x, .int .i64 R] w fun e w' => WtsP n R w e w' := by
  subst hx; exact waiters_any n R w hG h1 h8 hR
end Go.Proofs.YtcjhbmkpfclmfaaDoor
