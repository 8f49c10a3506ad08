/-
  The calls of package count that read its table of bits, or call a function that is handed in.
-/
import Derived.Test.YtphdlplbcajemaaDoorNum
import Derived.Defers
import Derived.Recover
namespace Go.Proofs.YtphdlplbcajemaaDoor
open Go.RowKit

/-- the bit of a core -/
def bitF (k : Nat) : Int := ((2 ^ k : Nat) : Int)
/-- is a core in a set? -/
def hasB (s : Int) (k : Nat) : Bool := bits .and .u8 s (bitF k) != 0
/-- the cores' bits lie in the table -/
def TabOk (w : World) : Prop := ∀ k : Nat, k < 8 → w.cell? ⟨0, k, none⟩ = some (.int .u8 (bitF k))

set_option maxHeartbeats 400000 in
theorem core_yes (c : Int) (w : World) (h0 : 0 ≤ c) (h1 : c < 8) :
    Calls Tryd.prog 34 #[.int .i64 c] w fun e w' => e = .returned (.bool true) ∧ w = w' := by
  go_enter Tryd.func34, Tryd.ntmps34
  go_wp2
  go_ret
  exact ⟨ret_b (by simp), rfl⟩
set_option maxHeartbeats 400000 in
theorem core_no (c : Int) (w : World) (h : ¬ (0 ≤ c ∧ c < 8)) :
    Calls Tryd.prog 34 #[.int .i64 c] w fun e w' => e = .returned (.bool false) ∧ w = w' := by
  by_cases h0 : 0 ≤ c
  · have h1 : 8 ≤ c := by omega
    clear h
    go_enter Tryd.func34, Tryd.ntmps34
    go_wp2
    go_ret
    exact ⟨ret_b (by simp; omega), rfl⟩
  · have h1 : c < 0 := by omega
    clear h
    go_enter Tryd.func34, Tryd.ntmps34
    go_wp2
    go_ret
    exact ⟨rfl, rfl⟩

set_option maxHeartbeats 400000 in
theorem has_in (s : Int) (k : Nat) (w : World) (hk : k < 8) (hc : w.cell? ⟨0, k, none⟩ = some (.int .u8 (bitF k))) :
    Calls Tryd.prog 24 #[.int .u8 s, .int .i64 k] w fun e w' => e = .returned (.bool (hasB s k)) ∧ w = w' := by
  go_enter Tryd.func24, Tryd.ntmps24
  go_wp2_with (go_at_call 34; refine (core_yes _ _ (by omega) (by omega)).mono ?_; rintro e w' ⟨rfl, rfl⟩)
  go_ret
  exact ⟨rfl, rfl⟩
set_option maxHeartbeats 400000 in
theorem has_out (s : Int) (c : Int) (w : World) (h : ¬ (0 ≤ c ∧ c < 8)) :
    Calls Tryd.prog 24 #[.int .u8 s, .int .i64 c] w fun e w' => e = .returned (.bool false) ∧ w = w' := by
  go_enter Tryd.func24, Tryd.ntmps24
  go_wp2_with (go_at_call 34; refine (core_no _ _ h).mono ?_; rintro e w' ⟨rfl, rfl⟩)
  go_ret
  exact ⟨rfl, rfl⟩

set_option maxHeartbeats 400000 in
theorem recover_idle (w : World) :
    CallsD Tryd.prog 39 #[] .returning w fun e u' w' => e = .returned (.tuple #[]) ∧ u' = .returning ∧ w = w' := by
  refine callsD_of_wpS Tryd.func39 rfl fun c₀ cs hu => ?_
  apply wpS_region
  simp [wpOpsS, go_sem, recoverD, hu, Tryd.ntmps39, bodyPostS, results, Tryd.results39]
  cases c₀
  simp_all

/-- The function has a body, and is entered. -/
def Enters (K : FuncId) : Prop := ∀ (args : Array Value) (w : World), (callFunc K args).run Tryd.prog w = .ok (.enter K args) w

set_option maxHeartbeats 400000 in
/-- A predicate that returns is heard. -/
theorem holds_any (K : FuncId) (cap : Array Value) (c : Int) (b : Bool) (w : World) (R : World → Prop) (hK : Enters K)
    (hcall : Calls Tryd.prog K (#[.int .i64 c] ++ cap) w fun e w' => e = .returned (.bool b) ∧ R w') :
    Calls Tryd.prog 37 #[.func (.func K) #[] cap, .int .i64 c] w fun e w' => e = .returned (.bool b) ∧ R w' := by
  have eg := hK
  unfold Enters at eg
  clear hK
  go_enter_defers Tryd.func37, Tryd.ntmps37
  go_wp2_with (with_reducible refine hcall.mono ?_; rintro e w' ⟨rfl, hR⟩)
  refine leaves_cons (f := 39) (args := #[]) (by simp) (by simp [go_sem]) ?_
  refine (recover_idle _).mono ?_
  rintro e u' w'' ⟨rfl, rfl, rfl⟩
  exact ⟨_, results_tmp rfl _ _ _, rfl, hR⟩

theorem enters_of {f : FuncId} {fn : Func} {c : Code} (hf : Tryd.prog.funcs[f]? = some fn) (hname : (fn.name == "runtime.NumGoroutine") = false) (hb : fn.body = some c) : Enters f := fun args w => by
  have h1 : fn.name ≠ "runtime.NumGoroutine" := by simpa using hname
  simp [callFunc, hf, h1, hb]
theorem enters29 : Enters 29 := enters_of Tryd.func29 (by kernel_rfl) rfl
theorem enters30 : Enters 30 := enters_of Tryd.func30 (by kernel_rfl) rfl
theorem enters31 : Enters 31 := enters_of Tryd.func31 (by kernel_rfl) rfl
theorem enters35 : Enters 35 := enters_of Tryd.func35 (by kernel_rfl) rfl
end Go.Proofs.YtphdlplbcajemaaDoor
