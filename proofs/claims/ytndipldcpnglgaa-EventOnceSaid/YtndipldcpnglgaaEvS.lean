/-
  Set: the iterator slices.Backward, and its caller.
-/
import Derived.RangeFuncNested
import Derived.RangeFuncBound
import Derived.RangeFuncCalls
import Derived.RangeFuncLeaves
import Derived.Shelf.Abstract
import Derived.Shelf.RegionOpen
import Derived.WalkKit
import Derived.OwnWalkIn
import Derived.TacticsInMore
import Derived.LoopNIn
import Derived.LoopIn
import Derived.Test.YtndipldcpnglgaaEvM
namespace Go.Proofs.Ytndipldcpnglgaa
open Go.RowKit Go.Shelf
attribute [local go_sem] Oper.semAt_some

/-- What comes: a place and a number. -/
abbrev BkA := { x : Int × Int // I64 x.2 }
def upto {α : Type} (f : Nat → α) (k : Nat) : List α := (List.range k).map f
theorem upto_succ {α : Type} (f : Nat → α) (k : Nat) : upto f (k + 1) = upto f k ++ [f k] := by simp [upto, List.range_succ]
theorem upto_length {α : Type} (f : Nat → α) (k : Nat) : (upto f k).length = k := by simp [upto]
/-- From the last one on. -/
def bk (zs : List Int) (hz : ∀ j, I64 (zs.getD j 0)) (k : Nat) : BkA := ⟨(((zs.length - 1 - k : Nat) : Int), zs.getD (zs.length - 1 - k) 0), hz _⟩
/-- Two blocks stay. -/
def Keep2 (x y : Nat) (A B : World) : Prop := B.heap[x]? = A.heap[x]? ∧ B.heap[y]? = A.heap[y]?
theorem Keep2.refl {x y : Nat} (A : World) : Keep2 x y A A := ⟨rfl, rfl⟩
theorem Keep2.trans {x y : Nat} {A B C : World} (h : Keep2 x y A B) (k : Keep2 x y B C) : Keep2 x y A C := ⟨k.1.trans h.1, k.2.trans h.2⟩
set_option maxRecDepth 100000 in
set_option maxHeartbeats 2000000 in
theorem back1_in (F : Fence) (n : Nat) (h26 : F.fn 26) (hro : F.round = none) (hn : 1 ≤ n) (l Bs b cap : Nat) (A : Option Addr) (zs : List Int) (hz : ∀ j, I64 (zs.getD j 0)) (hA : 0 < zs.length → A = some ⟨b, 0, none⟩) (hlen : zs.length ≤ 100000) (J Jx : List BkA → World → Prop)
    (hY : ∀ pre x W, J pre W → pre.length < zs.length → YieldAt F (n - 1) Try.prog l #[nV x.1.1, nV x.1.2] W fun e W' =>
      (e = .returned (.bool true) ∧ J (pre ++ [x]) W' ∧ Keep2 Bs b W W') ∨ (e = .returned (.bool false) ∧ Jx (pre ++ [x]) W'))
    (W : World) (hBs : W.cell? ⟨Bs, 0, none⟩ = some (.slice A zs.length cap)) (hc : ∀ j, j < zs.length → W.cell? ⟨b, j, none⟩ = some (nV (zs.getD j 0))) (h0 : J [] W) :
    CallsIn F n Try.prog 26 #[.func (.yield l) #[] #[], .pointer (some ⟨Bs, 0, none⟩)] W fun e W' => (∃ v, e = .returned v) ∧
      ((∃ ys, ys = upto (bk zs hz) zs.length ∧ J ys W') ∨ (∃ pre, (∃ k, k ≤ zs.length ∧ pre = upto (bk zs hz) k) ∧ Jx pre W')) := by
  refine callsIn_of_wp Try.func26 rfl h26 ?_ hro
  simp only [Try.ntmps26, List.size_toArray, List.length_cons, List.length_nil, Nat.reduceAdd, Nat.reduceSub, Array.replicate_succ, Array.replicate_zero, List.push_toArray, List.append_toArray, List.nil_append, List.cons_append]
  obtain ⟨N, hN⟩ : ∃ N, N = zs.length := ⟨_, rfl⟩
  have HC := Lib.hid hc
  have HY := Lib.hid hY
  have HZ := Lib.hid hz
  rw [← hN] at hBs hlen
  clear hc hY
  gi_wp2
  have i1 : IntKind.i64.wrap ((N : Int) - 1) = (N : Int) - 1 := by rw [IntKind.wrap_i64]; omega
  try rw [i1]
  gi_loopw [3] (fun i wr => ∃ k : Nat, k ≤ N ∧ i = .int .i64 ((N : Int) - 1 - (k : Int)) ∧ J (upto (bk zs hz) k) wr ∧ Hid (Keep2 Bs b W wr))
    (fun i _ => (intOf i + 1).toNat)
  case atStart => exact ⟨0, Nat.zero_le _, by rw [hN]; simp, h0, Keep2.refl _⟩
  case round =>
    obtain ⟨k, hk, rfl, hJs, HK⟩ := hrel
    have hbw : wr.cell? ⟨Bs, 0, none⟩ = some (.slice A N cap) := by rw [World.cell?_of_block (w := W) HK.out.1]; exact hBs
    by_cases hlt : k < N
    · obtain ⟨p, hp⟩ : ∃ p : Nat, p = N - 1 - k := ⟨_, rfl⟩
      have hpi : (N : Int) - 1 - (k : Int) = (p : Int) := by omega
      rw [hpi]
      have hpl : p < zs.length := by omega
      obtain rfl := hA (by omega)
      have hcx : wr.cell? ⟨b, p, none⟩ = some (nV (zs.getD p 0)) := by rw [World.cell?_of_block (w := W) HK.out.2]; exact HC.out p hpl
      obtain ⟨fn, tmps, assign, body, hy, hR⟩ := HY.out _ (bk zs hz k) wr hJs (by rw [upto_length]; omega)
      have e1 : (bk zs hz k).1.1 = (p : Int) := by show ((zs.length - 1 - k : Nat) : Int) = _; rw [← hN, ← hp]
      have e2 : (bk zs hz k).1.2 = zs.getD p 0 := by show zs.getD (zs.length - 1 - k) 0 = _; rw [← hN, ← hp]
      rw [e1, e2] at hy
      obtain ⟨z, hzz⟩ : ∃ z, z = zs.getD p 0 := ⟨_, rfl⟩
      rw [← hzz] at hy hcx
      have i2 : (0 : Int) ≤ (p : Int) := Int.natCast_nonneg _
      have i3 : (p : Int) < (N : Int) := by omega
      have i4 : IntKind.i64.wrap ((p : Int) - 1) = (p : Int) - 1 := by rw [IntKind.wrap_i64]; omega
      have HN := Lib.hid (And.intro hN (And.intro hp (And.intro hzz (And.intro e1 (And.intro e2 hpl)))))
      clear hN hp hzz e1 e2 hpl hpi
      gi_wp2
      refine hR.mono ?_
      rintro e W3 (⟨rfl, hJ3, hk3⟩ | ⟨rfl, hJx3⟩)
      · gi_wp2
        go_roundw
        case rel => exact ⟨k + 1, by omega, by have h5 := HN.out.2.1; exact congrArg _ (show (p : Int) - 1 = (N : Int) - 1 - ((k + 1 : Nat) : Int) by omega), by rw [upto_succ]; exact hJ3, HK.out.trans hk3⟩
        case measure => first | (simp [intOf]; done) | (simp [intOf]; omega)
      · gi_wp2
        refine bodyPost_ret (results_none rfl _ _ _) rfl ?_
        exact ⟨⟨_, rfl⟩, .inr ⟨_, ⟨k + 1, by have := HN.out.1; omega, (upto_succ _ _).symm⟩, hJx3⟩⟩
    · obtain rfl : k = N := by omega
      have i5 : ¬ (0 : Int) ≤ (k : Int) - 1 - (k : Int) := by omega
      gi_wp2
      go_end0
      exact ⟨⟨_, rfl⟩, .inl (by rw [← hN]; exact hJs)⟩
set_option maxHeartbeats 1000000 in
theorem back_in (F : Fence) (n : Nat) (h22 : F.fn 22) (hro : F.round = none) (v : Value) (w : World) (hv : ∃ A len cap, v = .slice A len cap) :
    CallsIn F n Try.prog 22 #[v] w fun e w' => e = .returned (.func (.func 26) #[] #[.pointer (some ⟨w.heap.size, 0, none⟩)]) ∧ w' = w.alloc (.cells #[v] 38) := by
  obtain ⟨A, len, cap, rfl⟩ := hv
  refine callsIn_of_wp Try.func22 rfl h22 ?_ hro
  simp only [Try.ntmps22, List.size_toArray, List.length_cons, List.length_nil, Nat.reduceAdd, Nat.reduceSub, Array.replicate_succ, Array.replicate_zero, List.push_toArray, List.append_toArray, List.nil_append, List.cons_append]
  gi_wp2
  go_ret
  exact ⟨rfl, rfl⟩
theorem back_stops (F : Fence) (n : Nat) (h26 : F.fn 26) (hro : F.round = none) (hn : 1 ≤ n) (Bs b cap : Nat) (A : Option Addr) (zs : List Int) (hz : ∀ j, I64 (zs.getD j 0)) (hA : 0 < zs.length → A = some ⟨b, 0, none⟩) (hlen : zs.length ≤ 100000) (w : World) (hBs : Bs < w.heap.size)
    (hc : w.cell? ⟨Bs, 0, none⟩ = some (.slice A zs.length cap)) (hI : ∀ j, j < zs.length → w.cell? ⟨b, j, none⟩ = some (nV (zs.getD j 0))) :
    SeqStopsK F n Try.prog 26 #[.pointer (some ⟨Bs, 0, none⟩)] (fun x : BkA => #[nV x.1.1, nV x.1.2]) (Keep2 Bs b) (fun ys => ys = upto (bk zs hz) zs.length) (fun pre => ∃ k, k ≤ zs.length ∧ pre = upto (bk zs hz) k) zs.length w := fun l J Jx W hW _ _ hY h0 =>
  back1_in F n h26 hro hn l Bs b cap A zs hz hA hlen J Jx hY W ((hW.cell (p := ⟨Bs, 0, none⟩) hBs).trans hc) (fun j hj => kept (hI j hj) hW) h0
end Go.Proofs.Ytndipldcpnglgaa
