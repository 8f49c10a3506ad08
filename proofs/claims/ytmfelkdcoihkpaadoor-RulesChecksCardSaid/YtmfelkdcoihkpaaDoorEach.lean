/-
  A rule about each of some elements, about each window; a window's place.
-/
import Derived.Test.YtmfelkdcoihkpaaDoorWin
namespace Go.Proofs.YtmfelkdcoihkpaaDoor
open Go.RowKit

/-- The function has a body, and is entered. -/
def Enters (K : FuncId) : Prop := ∀ (args : Array Value) (w : World), (callFunc K args).run Tryd.prog w = .ok (.enter K args) w
theorem enters_of {f : FuncId} {fn : Func} {c : Code} (hf : Tryd.prog.funcs[f]? = some fn) (hname : (fn.name == "runtime.NumGoroutine") = false) (hb : fn.body = some c) : Enters f := fun args w => by
  have h1 : fn.name ≠ "runtime.NumGoroutine" := by simpa using hname
  simp [callFunc, hf, h1, hb]

def EachRel (w : World) (f : Nat → Int) (n : Nat) (i : Value) (wr : World) : Prop :=
  ∃ k : Nat, k ≤ n ∧ i = .int .i64 k ∧ (∀ j, j < k → f j = 0) ∧ Below w.heap.size w wr
theorem range_at {n k : Nat} (h : k < n) : ∃ r, List.range n = List.range k ++ k :: r := by
  obtain ⟨m, rfl⟩ : ∃ m, n = k + 1 + m := ⟨n - (k + 1), by omega⟩
  rw [List.range_add, List.range_succ]
  exact ⟨(List.range m).map (fun x => k + 1 + x), by simp⟩
theorem first_range {f : Nat → Int} {n k : Nat} (hk : k < n) (h : ∀ j, j < k → f j = 0) (hx : f k ≠ 0) : firstP f (fun c => (c : Int)) (List.range n) = (f k, (k : Int)) := by
  obtain ⟨r, e⟩ := range_at hk
  rw [e]
  exact firstP_at (fun y hy => h y (List.mem_range.1 hy)) hx

set_option maxHeartbeats 2000000 in
theorem each_any (K : FuncId) (cap : Array Value) (f : Nat → Int) (n : Nat) (w : World) (hK : Enters K) (hn : n ≤ 1000000000000000)
    (hcall : ∀ k W, k < n → Below w.heap.size w W → Calls Tryd.prog K (#[.int .i64 k] ++ cap) W fun e w' => e = .returned (.int .i64 (f k)) ∧ Below W.heap.size W w') :
    Calls Tryd.prog 38 #[.int .i64 n, .func (.func K) #[] cap] w fun e w' => Told w.heap.size (firstP f (fun c => (c : Int)) (List.range n)) e w' ∧ Below w.heap.size w w' := by
  have HC := Lib.hid hcall
  have eg := hK
  unfold Enters at eg
  clear hcall hK
  go_enter Tryd.func38, Tryd.ntmps38
  go_wp2_with fail
  go_loopw [8] (fun i wr => EachRel w f n i wr) (fun i _ => n - (intOf i).toNat)
  case atStart => exact ⟨0, Nat.zero_le _, rfl, fun j hj => by omega, Below.refl _ _⟩
  case round =>
    obtain ⟨k, hk, rfl, hj, hB⟩ := hrel
    have HJ := Lib.hid hj
    have HB := Lib.hid hB
    by_cases hlt : k < n
    · obtain ⟨x, hx⟩ : ∃ x, x = f k := ⟨_, rfl⟩
      have HC1 := Lib.hid (HC.out k _ hlt hB)
      rw [← hx] at HC1
      have HX := Lib.hid hx
      clear hj hB hx
      by_cases h0 : x = 0
      · subst h0
        go_wp2_with fail
        refine HC1.out.mono ?_
        rintro e w1 ⟨rfl, hB⟩
        have HB1 := Lib.hid hB
        clear hB
        go_wp2_with fail
        go_roundw
        case rel => exact ⟨k + 1, by omega, by go_num, fun j hj => (by
            rcases Nat.lt_or_ge j k with h | h
            · exact HJ.out j h
            · obtain rfl : j = k := by omega
              exact HX.out.symm), below_two HB.out HB1.out⟩
        case measure => simp [intOf]; omega
      · have hne : (x != 0) = true := by simpa using h0
        have H0 := Lib.hid h0
        clear h0
        go_wp2_with fail
        refine HC1.out.mono ?_
        rintro e w1 ⟨rfl, hB⟩
        have HB1 := Lib.hid hB
        clear hB
        go_wp2_with fail
        go_ret
        have hz : w.heap.size ≤ w1.heap.size := Nat.le_trans HB.out.size HB1.out.size
        refine ⟨.inr ?_, below_two HB.out (below_two HB1.out ((Below.refl _ _).alloc (Nat.le_refl _) _))⟩
        rw [first_range hlt HJ.out (by rw [← HX.out]; exact H0.out)]
        exact ⟨by rw [← HX.out]; exact H0.out, w1.heap.size, hz, rfl, by simp, by simp [← HX.out]⟩
    · have hk' : k = n := by omega
      subst hk'
      clear hj hB
      go_wp2_with fail
      go_ret
      exact ⟨.inl ⟨by rw [firstP_none fun x hx => HJ.out x (List.mem_range.1 hx)], rfl⟩, HB.out⟩
end Go.Proofs.YtmfelkdcoihkpaaDoor
