/-
  errors.Is at a number, over numbers and failures that are wrapped any number of times; blob.Is.
-/
import Derived.Test.YtmfelkdcoihkpaaDoorAs
import Derived.Defers
import Derived.Recover
namespace Go.Proofs.YtmfelkdcoihkpaaDoor
open Go.RowKit Go.Extern.Stop Go.Stop Go.Extern

theorem eql33 (a b : Int) (w : World) : (binOp .eql 35 (.iface 31 (.int .i64 a)) (.iface 31 (.int .i64 b))).run Tryd.prog w = .ok (.bool (a == b)) w := by
  have hc : (Tryd.prog.info? 31).map (·.comparable) = some true := by kernel_rfl
  obtain ⟨i, hi, hcmp⟩ := Option.map_eq_some_iff.1 hc
  have h : ∀ d : Nat, (Op.equalIn (d + 1 + 1) 35 (.iface 31 (.int .i64 a)) (.iface 31 (.int .i64 b))).run Tryd.prog w = .ok (a == b) w := fun d => by
    simp [Op.equalIn, run_underlying Tryd.underlying35, run_underlying Tryd.underlying31, typeInfo, hi, hcmp]
  simp only [binOp]
  simp [Op.equal, Op.maxDepth, h 9998]
theorem eql33_yes (a : Int) (w : World) : (binOp .eql 35 (.iface 31 (.int .i64 a)) (.iface 31 (.int .i64 a))).run Tryd.prog w = .ok (.bool true) w := by
  rw [eql33]; simp
theorem eql33_no (a b : Int) (h : a ≠ b) (w : World) : (binOp .eql 35 (.iface 31 (.int .i64 a)) (.iface 31 (.int .i64 b))).run Tryd.prog w = .ok (.bool false) w := by
  rw [eql33]; simp [h]

set_option maxHeartbeats 2000000 in
/-- errors.is over a failure, at its own number. -/
theorem is43_fail_yes (b o : Nat) (a : Int) (w : World) (hc : w.cell? ⟨b, o + 1, none⟩ = some (.int .i64 a)) :
    Calls Tryd.prog 59 #[.iface 57 (.pointer (some ⟨b, o, none⟩)), .iface 31 (.int .i64 a), .bool true] w fun e w' => e = .returned (.bool true) ∧ Below w.heap.size w w' := by
  have mF := methodUnwrap56
  have n56 := noIs56
  have n33 := noIs33
  have u56 := unwrap56
  have u33 := noUnwrap33
  have us33 := noUnwraps33
  have HC := Lib.hid hc
  clear hc
  have hnn := run_eql_iface_nil 31 (.int .i64 a)
  have e33 := eql33_yes a
  have e56 := run_eql_iface_types (P := Tryd.prog) 57 31 (.pointer (some ⟨b, o, none⟩)) (.int .i64 a) Tryd.underlying35 (by decide)
  go_enter Tryd.func59, Tryd.ntmps59
  go_wp2
  refine wp_loop_rounds 2 ?_
  rw [rounds_succ]
  go_wp2_with (go_at_call 100; refine (unw56 b o a _ HC.out).mono ?_; rintro e w1 ⟨rfl, rfl⟩)
  rw [rounds_succ]
  go_wp2
  go_ret
  exact ⟨rfl, Below.refl _ _⟩

set_option maxHeartbeats 2000000 in
/-- errors.is over a failure, at another number. -/
theorem is43_fail_no (b o : Nat) (a x : Int) (w : World) (hc : w.cell? ⟨b, o + 1, none⟩ = some (.int .i64 a)) (hax : a ≠ x) :
    Calls Tryd.prog 59 #[.iface 57 (.pointer (some ⟨b, o, none⟩)), .iface 31 (.int .i64 x), .bool true] w fun e w' => e = .returned (.bool false) ∧ Below w.heap.size w w' := by
  have mF := methodUnwrap56
  have n56 := noIs56
  have n33 := noIs33
  have u56 := unwrap56
  have u33 := noUnwrap33
  have us33 := noUnwraps33
  have HC := Lib.hid hc
  clear hc
  have hnn := run_eql_iface_nil 31 (.int .i64 a)
  have e33 := eql33_no a x hax
  have e56 := run_eql_iface_types (P := Tryd.prog) 57 31 (.pointer (some ⟨b, o, none⟩)) (.int .i64 x) Tryd.underlying35 (by decide)
  go_enter Tryd.func59, Tryd.ntmps59
  go_wp2
  refine wp_loop_rounds 2 ?_
  rw [rounds_succ]
  go_wp2_with (go_at_call 100; refine (unw56 b o a _ HC.out).mono ?_; rintro e w1 ⟨rfl, rfl⟩)
  rw [rounds_succ]
  go_wp2
  go_ret
  exact ⟨rfl, Below.refl _ _⟩
set_option maxHeartbeats 2000000 in
/-- errors.is at the number itself. -/
theorem is43_num (a : Int) (w : World) :
    Calls Tryd.prog 59 #[.iface 31 (.int .i64 a), .iface 31 (.int .i64 a), .bool true] w fun e w' => e = .returned (.bool true) ∧ Below w.heap.size w w' := by
  have e33 := eql33_yes a
  go_enter Tryd.func59, Tryd.ntmps59
  go_wp2
  refine wp_loop_rounds 1 ?_
  rw [rounds_succ]
  go_wp2
  go_ret
  exact ⟨rfl, Below.refl _ _⟩

/-- (rtype).Comparable, behind a name that the walk does not open. -/
def cmpF : Array Value → Sem Value := ReflectliteType.method fun t => do Rtype.noPackHeld "Comparable" t; pure (.bool (← typeInfo t).comparable)
theorem cmp77 : type_of% (@run_callFunc_extern Tryd.prog 106 _ cmpF Tryd.func106 (by kernel_rfl) (by kernel_rfl) (by kernel_rfl) (by kernel_rfl)) := @run_callFunc_extern Tryd.prog 106 _ cmpF Tryd.func106 (by kernel_rfl) (by kernel_rfl) (by kernel_rfl) (by kernel_rfl)
theorem cmp33 (w : World) : (cmpF #[.agg #[H 31]]).run Tryd.prog w = .ok (.bool true) w := by kernel_rfl

set_option maxHeartbeats 1000000 in
/-- errors.Is at a number comes to errors.is. -/
theorem is37 (t : TypeId) (v : Value) (x : Int) (b : Bool) (w : World)
    (h43 : Calls Tryd.prog 59 #[.iface t v, .iface 31 (.int .i64 x), .bool true] w fun e w' => e = .returned (.bool b) ∧ Below w.heap.size w w') :
    Calls Tryd.prog 23 #[.iface t v, .iface 31 (.int .i64 x)] w fun e w' => e = .returned (.bool b) ∧ Below w.heap.size w w' := by
  have x42 := x42
  have x77 := cmp77
  have t33 := typeOf31
  have mC := methodComparable
  have c33 := cmp33
  have hnil := run_eql_iface_nil t v
  have hni2 := run_eql_iface_nil 31 (.int .i64 x)
  have h43w := Lib.hid h43
  clear h43
  go_enter Tryd.func23, Tryd.ntmps23
  go_wp2_with (go_at_call 59; refine h43w.out.mono ?_; rintro e w1 ⟨rfl, hR⟩; have HR := Lib.hid hR; clear hR)
  go_ret
  exact ⟨rfl, HR.out⟩
theorem is37_nil (x : Int) (w : World) :
    Calls Tryd.prog 23 #[.nilIface, .iface 31 (.int .i64 x)] w fun e w' => e = .returned (.bool false) ∧ Below w.heap.size w w' := by
  have hn := run_eql_iface_nil_left (P := Tryd.prog) w 31 (.int .i64 x) Tryd.underlying35
  go_enter Tryd.func23, Tryd.ntmps23
  go_wp2
  go_ret
  exact ⟨rfl, Below.refl _ _⟩

set_option maxHeartbeats 400000 in
theorem recover38 (w : World) : CallsD Tryd.prog 29 #[] .returning w fun e u' w' => e = .returned (.tuple #[]) ∧ u' = .returning ∧ w = w' := by
  refine callsD_of_wpS Tryd.func29 rfl fun c₀ cs hu => ?_
  apply wpS_region
  simp [wpOpsS, go_sem, recoverD, hu, Tryd.ntmps29, bodyPostS, results, Tryd.results29]
  cases c₀
  simp_all
set_option maxHeartbeats 400000 in
theorem recover40 (w : World) : CallsD Tryd.prog 31 #[] .returning w fun e u' w' => e = .returned (.tuple #[]) ∧ u' = .returning ∧ w = w' := by
  refine callsD_of_wpS Tryd.func31 rfl fun c₀ cs hu => ?_
  apply wpS_region
  simp [wpOpsS, go_sem, recoverD, hu, Tryd.ntmps31, bodyPostS, results, Tryd.results31]
  cases c₀
  simp_all

/-- errors.Is of OK, and of a failure, at OK. -/
theorem is_ok (w : World) : Calls Tryd.prog 23 #[.iface 31 (.int .i64 0), .iface 31 (.int .i64 0)] w fun e w' => e = .returned (.bool true) ∧ Below w.heap.size w w' := is37 31 _ 0 true w (is43_num 0 w)
theorem is_fail (b o : Nat) (a : Int) (w : World) (hc : w.cell? ⟨b, o + 1, none⟩ = some (.int .i64 a)) (ha : a ≠ 0) :
    Calls Tryd.prog 23 #[.iface 57 (.pointer (some ⟨b, o, none⟩)), .iface 31 (.int .i64 0)] w fun e w' => e = .returned (.bool false) ∧ Below w.heap.size w w' := is37 57 _ 0 false w (is43_fail_no b o a 0 w hc ha)
end Go.Proofs.YtmfelkdcoihkpaaDoor
