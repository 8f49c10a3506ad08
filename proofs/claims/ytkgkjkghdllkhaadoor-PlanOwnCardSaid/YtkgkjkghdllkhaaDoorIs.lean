/-
  errors.Is at a number, over numbers and failures that are wrapped any number of times; blob.Is.
-/
import Derived.Test.YtkgkjkghdllkhaaDoorAs
import Derived.Defers
import Derived.Recover
namespace Go.Proofs.YtkgkjkghdllkhaaDoor
open Go.RowKit Go.Extern.Stop Go.Stop Go.Extern

theorem eql33 (a b : Int) (w : World) : (binOp .eql 33 (.iface 38 (.int .i64 a)) (.iface 38 (.int .i64 b))).run Tryd.prog w = .ok (.bool (a == b)) w := by
  have hc : (Tryd.prog.info? 38).map (·.comparable) = some true := by kernel_rfl
  obtain ⟨i, hi, hcmp⟩ := Option.map_eq_some_iff.1 hc
  have h : ∀ d : Nat, (Op.equalIn (d + 1 + 1) 33 (.iface 38 (.int .i64 a)) (.iface 38 (.int .i64 b))).run Tryd.prog w = .ok (a == b) w := fun d => by
    simp [Op.equalIn, run_underlying Tryd.underlying33, run_underlying Tryd.underlying38, typeInfo, hi, hcmp]
  simp only [binOp]
  simp [Op.equal, Op.maxDepth, h 9998]
theorem eql33_yes (a : Int) (w : World) : (binOp .eql 33 (.iface 38 (.int .i64 a)) (.iface 38 (.int .i64 a))).run Tryd.prog w = .ok (.bool true) w := by
  rw [eql33]; simp
theorem eql33_no (a b : Int) (h : a ≠ b) (w : World) : (binOp .eql 33 (.iface 38 (.int .i64 a)) (.iface 38 (.int .i64 b))).run Tryd.prog w = .ok (.bool false) w := by
  rw [eql33]; simp [h]

set_option maxHeartbeats 2000000 in
/-- errors.is over a failure, at its own number. -/
theorem is43_fail_yes (b o : Nat) (a : Int) (w : World) (hc : w.cell? ⟨b, o + 1, none⟩ = some (.int .i64 a)) :
    Calls Tryd.prog 58 #[.iface 71 (.pointer (some ⟨b, o, none⟩)), .iface 38 (.int .i64 a), .bool true] w fun e w' => e = .returned (.bool true) ∧ Below w.heap.size w w' := by
  have mF := methodUnwrap56
  have n56 := noIs56
  have n33 := noIs33
  have u56 := unwrap56
  have u33 := noUnwrap33
  have us33 := noUnwraps33
  have HC := Lib.hid hc
  clear hc
  have hnn := run_eql_iface_nil 38 (.int .i64 a)
  have e33 := eql33_yes a
  have e56 := run_eql_iface_types (P := Tryd.prog) 71 38 (.pointer (some ⟨b, o, none⟩)) (.int .i64 a) Tryd.underlying33 (by decide)
  go_enter Tryd.func58, Tryd.ntmps58
  go_wp2
  refine wp_loop_rounds 2 ?_
  rw [rounds_succ]
  go_wp2_with (go_at_call 113; refine (unw56 b o a _ HC.out).mono ?_; rintro e w1 ⟨rfl, rfl⟩)
  rw [rounds_succ]
  go_wp2
  go_ret
  exact ⟨rfl, Below.refl _ _⟩

/-- (rtype).Comparable, behind a name that the walk does not open. -/
def cmpF : Array Value → Sem Value := ReflectliteType.method fun t => do Rtype.noPackHeld "Comparable" t; pure (.bool (← typeInfo t).comparable)
theorem cmp77 : type_of% (@run_callFunc_extern Tryd.prog 120 _ cmpF Tryd.func120 (by kernel_rfl) (by kernel_rfl) (by kernel_rfl) (by kernel_rfl)) := @run_callFunc_extern Tryd.prog 120 _ cmpF Tryd.func120 (by kernel_rfl) (by kernel_rfl) (by kernel_rfl) (by kernel_rfl)
theorem cmp33 (w : World) : (cmpF #[.agg #[H 38]]).run Tryd.prog w = .ok (.bool true) w := by kernel_rfl

set_option maxHeartbeats 1000000 in
/-- errors.Is at a number comes to errors.is. -/
theorem is37 (t : TypeId) (v : Value) (x : Int) (b : Bool) (w : World)
    (h43 : Calls Tryd.prog 58 #[.iface t v, .iface 38 (.int .i64 x), .bool true] w fun e w' => e = .returned (.bool b) ∧ Below w.heap.size w w') :
    Calls Tryd.prog 31 #[.iface t v, .iface 38 (.int .i64 x)] w fun e w' => e = .returned (.bool b) ∧ Below w.heap.size w w' := by
  have x42 := x42
  have x77 := cmp77
  have t33 := typeOf38
  have mC := methodComparable
  have c33 := cmp33
  have hnil := run_eql_iface_nil t v
  have hni2 := run_eql_iface_nil 38 (.int .i64 x)
  have h43w := Lib.hid h43
  clear h43
  go_enter Tryd.func31, Tryd.ntmps31
  go_wp2_with (go_at_call 58; refine h43w.out.mono ?_; rintro e w1 ⟨rfl, hR⟩; have HR := Lib.hid hR; clear hR)
  go_ret
  exact ⟨rfl, HR.out⟩
theorem is37_nil (x : Int) (w : World) :
    Calls Tryd.prog 31 #[.nilIface, .iface 38 (.int .i64 x)] w fun e w' => e = .returned (.bool false) ∧ Below w.heap.size w w' := by
  have hn := run_eql_iface_nil_left (P := Tryd.prog) w 38 (.int .i64 x) Tryd.underlying33
  go_enter Tryd.func31, Tryd.ntmps31
  go_wp2
  go_ret
  exact ⟨rfl, Below.refl _ _⟩

set_option maxHeartbeats 400000 in
theorem recover38 (w : World) : CallsD Tryd.prog 51 #[] .returning w fun e u' w' => e = .returned (.tuple #[]) ∧ u' = .returning ∧ w = w' := by
  refine callsD_of_wpS Tryd.func51 rfl fun c₀ cs hu => ?_
  apply wpS_region
  simp [wpOpsS, go_sem, recoverD, hu, Tryd.ntmps51, bodyPostS, results, Tryd.results51]
  cases c₀
  simp_all
set_option maxHeartbeats 400000 in
theorem recover40 (w : World) : CallsD Tryd.prog 53 #[] .returning w fun e u' w' => e = .returned (.tuple #[]) ∧ u' = .returning ∧ w = w' := by
  refine callsD_of_wpS Tryd.func53 rfl fun c₀ cs hu => ?_
  apply wpS_region
  simp [wpOpsS, go_sem, recoverD, hu, Tryd.ntmps53, bodyPostS, results, Tryd.results53]
  cases c₀
  simp_all

end Go.Proofs.YtkgkjkghdllkhaaDoor
