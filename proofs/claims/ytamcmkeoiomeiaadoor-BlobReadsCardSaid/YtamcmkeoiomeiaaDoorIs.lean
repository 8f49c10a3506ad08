/-
  errors.Is at a number, over numbers and failures that are wrapped any number of times; blob.Is.
-/
import Derived.Test.YtamcmkeoiomeiaaDoorAs
import Derived.Defers
import Derived.Recover
namespace Go.Proofs.YtamcmkeoiomeiaaDoor
open Go.RowKit Go.Extern.Stop Go.Stop Go.Extern

theorem eql33 (a b : Int) (w : World) : (binOp .eql 37 (.iface 33 (.int .i64 a)) (.iface 33 (.int .i64 b))).run Tryd.prog w = .ok (.bool (a == b)) w := by
  have hc : (Tryd.prog.info? 33).map (·.comparable) = some true := by kernel_rfl
  obtain ⟨i, hi, hcmp⟩ := Option.map_eq_some_iff.1 hc
  have h : ∀ d : Nat, (Op.equalIn (d + 1 + 1) 37 (.iface 33 (.int .i64 a)) (.iface 33 (.int .i64 b))).run Tryd.prog w = .ok (a == b) w := fun d => by
    simp [Op.equalIn, run_underlying Tryd.underlying37, run_underlying Tryd.underlying33, typeInfo, hi, hcmp]
  simp only [binOp]
  simp [Op.equal, Op.maxDepth, h 9998]
theorem eql33_yes (a : Int) (w : World) : (binOp .eql 37 (.iface 33 (.int .i64 a)) (.iface 33 (.int .i64 a))).run Tryd.prog w = .ok (.bool true) w := by
  rw [eql33]; simp
theorem eql33_no (a b : Int) (h : a ≠ b) (w : World) : (binOp .eql 37 (.iface 33 (.int .i64 a)) (.iface 33 (.int .i64 b))).run Tryd.prog w = .ok (.bool false) w := by
  rw [eql33]; simp [h]

set_option maxHeartbeats 1000000 in
theorem is43_num (k : Nat) (a x : Int) (w : World) :
    Calls Tryd.prog 43 #[errV (.iface 33 (.int .i64 a)) k, .iface 33 (.int .i64 x), .bool true] w fun e w' => e = .returned (.bool (decide (a = x))) ∧ Below w.heap.size w w' := by
  have mU := methodUnwrap60
  have n60 := noIs60
  have n33 := noIs33
  have u60 := unwrap60
  have u33 := noUnwrap33
  have us33 := noUnwraps33
  by_cases hax : a = x
  · subst hax
    have e33 := eql33_yes a
    go_enter Tryd.func43, Tryd.ntmps43
    go_wp2
    go_loopg [0] k (fun j e wr => e = errV (.iface 33 (.int .i64 a)) j ∧ Below w.heap.size w wr)
    case atStart => exact ⟨rfl, Below.refl _ _⟩
    case round =>
      obtain ⟨rfl, hB⟩ := hrel
      have HB := Lib.hid hB
      clear hB
      cases gk with
      | zero =>
        simp only [errV]
        go_wp2
        go_ret
        exact ⟨by simp, HB.out⟩
      | succ j =>
        obtain ⟨t, v, hev⟩ := errV_iface33 a j
        have hnil := run_eql_iface_nil t v
        rw [errV_succ, hev]
        have HE := Lib.hid hev
        clear hev
        have e60 := run_eql_iface_types (P := Tryd.prog) 60 33 (.agg #[.iface t v]) (.int .i64 a) Tryd.underlying37 (by decide)
        go_wp2_with (go_at_call 71; refine (unw60 _ _).mono ?_; rintro e w1 ⟨rfl, hB1⟩)
        go_roundg j
        case measure => omega
        case rel => exact ⟨HE.out.symm, HB.out.trans (hB1.mono HB.out.size)⟩
  · have e33 := eql33_no a x hax
    have HAX := Lib.hid hax
    clear hax
    go_enter Tryd.func43, Tryd.ntmps43
    go_wp2
    go_loopg [0] k (fun j e wr => e = errV (.iface 33 (.int .i64 a)) j ∧ Below w.heap.size w wr)
    case atStart => exact ⟨rfl, Below.refl _ _⟩
    case round =>
      obtain ⟨rfl, hB⟩ := hrel
      have HB := Lib.hid hB
      clear hB
      cases gk with
      | zero =>
        simp only [errV]
        go_wp2
        go_ret
        exact ⟨by rw [decide_eq_false HAX.out]; rfl, HB.out⟩
      | succ j =>
        obtain ⟨t, v, hev⟩ := errV_iface33 a j
        have hnil := run_eql_iface_nil t v
        rw [errV_succ, hev]
        have HE := Lib.hid hev
        clear hev
        have e60 := run_eql_iface_types (P := Tryd.prog) 60 33 (.agg #[.iface t v]) (.int .i64 x) Tryd.underlying37 (by decide)
        go_wp2_with (go_at_call 71; refine (unw60 _ _).mono ?_; rintro e w1 ⟨rfl, hB1⟩)
        go_roundg j
        case measure => omega
        case rel => exact ⟨HE.out.symm, HB.out.trans (hB1.mono HB.out.size)⟩

/-- What errors.is comes to over a failure: its wraps, itself, its number. -/
def FailRel (b o : Nat) (a : Int) (w : World) (j : Nat) (e : Value) (wr : World) : Prop :=
  Below w.heap.size w wr ∧ ((∃ i, j = i + 1 ∧ e = errV (.iface 56 (.pointer (some ⟨b, o, none⟩))) i) ∨ (j = 0 ∧ e = .iface 33 (.int .i64 a)))


set_option maxHeartbeats 2000000 in
theorem is43_fail_yes (k b o : Nat) (a x : Int) (w : World) (hc : w.cell? ⟨b, o + 1, none⟩ = some (.int .i64 a)) (hax : a = x) :
    Calls Tryd.prog 43 #[errV (.iface 56 (.pointer (some ⟨b, o, none⟩))) k, .iface 33 (.int .i64 x), .bool true] w fun e w' => e = .returned (.bool true) ∧ Below w.heap.size w w' := by
  have mU := methodUnwrap60
  have mF := methodUnwrap56
  have n60 := noIs60
  have n56 := noIs56
  have n33 := noIs33
  have u60 := unwrap60
  have u56 := unwrap56
  have u33 := noUnwrap33
  have us33 := noUnwraps33
  have hlt := cell_lt hc
  have HC := Lib.hid hc
  clear hc
  have hnn := run_eql_iface_nil 33 (.int .i64 a)
  obtain rfl := hax
  have e33 := eql33_yes a
  go_enter Tryd.func43, Tryd.ntmps43
  go_wp2
  go_loopg [0] (k + 1) (fun j e wr => FailRel b o a w j e wr)
  case atStart => exact ⟨Below.refl _ _, .inl ⟨k, rfl, rfl⟩⟩
  case round =>
    obtain ⟨hB, ⟨i, rfl, rfl⟩ | ⟨rfl, rfl⟩⟩ := hrel
    · have HB := Lib.hid hB
      clear hB
      cases i with
      | zero =>
        have hcw : wr.cell? ⟨b, o + 1, none⟩ = some (.int .i64 a) := by rw [HB.out.cell hlt]; exact HC.out
        have e56 := run_eql_iface_types (P := Tryd.prog) 56 33 (.pointer (some ⟨b, o, none⟩)) (.int .i64 a) Tryd.underlying37 (by decide)
        simp only [errV]
        go_wp2_with (go_at_call 69; refine (unw56 b o a _ hcw).mono ?_; rintro e w1 ⟨rfl, rfl⟩)
        go_roundg 0
        case measure => omega
        case rel => exact ⟨HB.out, .inr ⟨rfl, rfl⟩⟩
      | succ j =>
        obtain ⟨t, v, hev⟩ := errV_iface56 ⟨b, o, none⟩ j
        have hnil := run_eql_iface_nil t v
        rw [errV_succ, hev]
        have HE := Lib.hid hev
        clear hev
        have e60 := run_eql_iface_types (P := Tryd.prog) 60 33 (.agg #[.iface t v]) (.int .i64 a) Tryd.underlying37 (by decide)
        go_wp2_with (go_at_call 71; refine (unw60 _ _).mono ?_; rintro e w1 ⟨rfl, hB1⟩)
        go_roundg (j + 1)
        case measure => omega
        case rel => exact ⟨HB.out.trans (hB1.mono HB.out.size), .inl ⟨j, rfl, HE.out.symm⟩⟩
    · have HB := Lib.hid hB
      clear hB
      go_wp2
      go_ret
      exact ⟨rfl, HB.out⟩

set_option maxHeartbeats 2000000 in
theorem is43_fail_no (k b o : Nat) (a x : Int) (w : World) (hc : w.cell? ⟨b, o + 1, none⟩ = some (.int .i64 a)) (hax : a ≠ x) :
    Calls Tryd.prog 43 #[errV (.iface 56 (.pointer (some ⟨b, o, none⟩))) k, .iface 33 (.int .i64 x), .bool true] w fun e w' => e = .returned (.bool false) ∧ Below w.heap.size w w' := by
  have mU := methodUnwrap60
  have mF := methodUnwrap56
  have n60 := noIs60
  have n56 := noIs56
  have n33 := noIs33
  have u60 := unwrap60
  have u56 := unwrap56
  have u33 := noUnwrap33
  have us33 := noUnwraps33
  have hlt := cell_lt hc
  have HC := Lib.hid hc
  clear hc
  have hnn := run_eql_iface_nil 33 (.int .i64 a)
  have e33 := eql33_no a x hax
  clear hax
  go_enter Tryd.func43, Tryd.ntmps43
  go_wp2
  go_loopg [0] (k + 1) (fun j e wr => FailRel b o a w j e wr)
  case atStart => exact ⟨Below.refl _ _, .inl ⟨k, rfl, rfl⟩⟩
  case round =>
    obtain ⟨hB, ⟨i, rfl, rfl⟩ | ⟨rfl, rfl⟩⟩ := hrel
    · have HB := Lib.hid hB
      clear hB
      cases i with
      | zero =>
        have hcw : wr.cell? ⟨b, o + 1, none⟩ = some (.int .i64 a) := by rw [HB.out.cell hlt]; exact HC.out
        have e56 := run_eql_iface_types (P := Tryd.prog) 56 33 (.pointer (some ⟨b, o, none⟩)) (.int .i64 x) Tryd.underlying37 (by decide)
        simp only [errV]
        go_wp2_with (go_at_call 69; refine (unw56 b o a _ hcw).mono ?_; rintro e w1 ⟨rfl, rfl⟩)
        go_roundg 0
        case measure => omega
        case rel => exact ⟨HB.out, .inr ⟨rfl, rfl⟩⟩
      | succ j =>
        obtain ⟨t, v, hev⟩ := errV_iface56 ⟨b, o, none⟩ j
        have hnil := run_eql_iface_nil t v
        rw [errV_succ, hev]
        have HE := Lib.hid hev
        clear hev
        have e60 := run_eql_iface_types (P := Tryd.prog) 60 33 (.agg #[.iface t v]) (.int .i64 x) Tryd.underlying37 (by decide)
        go_wp2_with (go_at_call 71; refine (unw60 _ _).mono ?_; rintro e w1 ⟨rfl, hB1⟩)
        go_roundg (j + 1)
        case measure => omega
        case rel => exact ⟨HB.out.trans (hB1.mono HB.out.size), .inl ⟨j, rfl, HE.out.symm⟩⟩
    · have HB := Lib.hid hB
      clear hB
      go_wp2
      go_ret
      exact ⟨rfl, HB.out⟩

theorem is43_fail (k b o : Nat) (a x : Int) (w : World) (hc : w.cell? ⟨b, o + 1, none⟩ = some (.int .i64 a)) :
    Calls Tryd.prog 43 #[errV (.iface 56 (.pointer (some ⟨b, o, none⟩))) k, .iface 33 (.int .i64 x), .bool true] w fun e w' => e = .returned (.bool (decide (a = x))) ∧ Below w.heap.size w w' := by
  by_cases h : a = x
  · rw [decide_eq_true h]; exact is43_fail_yes k b o a x w hc h
  · rw [decide_eq_false h]; exact is43_fail_no k b o a x w hc h

/-- (rtype).Comparable, behind a name that the walk does not open. -/
def cmpF : Array Value → Sem Value := ReflectliteType.method fun t => do Rtype.noPackHeld "Comparable" t; pure (.bool (← typeInfo t).comparable)
theorem cmp77 : type_of% (@run_callFunc_extern Tryd.prog 77 _ cmpF Tryd.func77 (by kernel_rfl) (by kernel_rfl) (by kernel_rfl) (by kernel_rfl)) := @run_callFunc_extern Tryd.prog 77 _ cmpF Tryd.func77 (by kernel_rfl) (by kernel_rfl) (by kernel_rfl) (by kernel_rfl)
theorem cmp33 (w : World) : (cmpF #[.agg #[H 33]]).run Tryd.prog w = .ok (.bool true) w := by kernel_rfl

set_option maxHeartbeats 1000000 in
/-- errors.Is at a number comes to errors.is. -/
theorem is37 (t : TypeId) (v : Value) (x : Int) (b : Bool) (w : World)
    (h43 : Calls Tryd.prog 43 #[.iface t v, .iface 33 (.int .i64 x), .bool true] w fun e w' => e = .returned (.bool b) ∧ Below w.heap.size w w') :
    Calls Tryd.prog 37 #[.iface t v, .iface 33 (.int .i64 x)] w fun e w' => e = .returned (.bool b) ∧ Below w.heap.size w w' := by
  have x42 := x42
  have x77 := cmp77
  have t33 := typeOf33
  have mC := methodComparable
  have c33 := cmp33
  have hnil := run_eql_iface_nil t v
  have hni2 := run_eql_iface_nil 33 (.int .i64 x)
  have h43w := Lib.hid h43
  clear h43
  go_enter Tryd.func37, Tryd.ntmps37
  go_wp2_with (go_at_call 43; refine h43w.out.mono ?_; rintro e w1 ⟨rfl, hR⟩; have HR := Lib.hid hR; clear hR)
  go_ret
  exact ⟨rfl, HR.out⟩
theorem is37_nil (x : Int) (w : World) :
    Calls Tryd.prog 37 #[.nilIface, .iface 33 (.int .i64 x)] w fun e w' => e = .returned (.bool false) ∧ Below w.heap.size w w' := by
  have hn := run_eql_iface_nil_left (P := Tryd.prog) w 33 (.int .i64 x) Tryd.underlying37
  go_enter Tryd.func37, Tryd.ntmps37
  go_wp2
  go_ret
  exact ⟨rfl, Below.refl _ _⟩

set_option maxHeartbeats 400000 in
theorem recover36 (w : World) : CallsD Tryd.prog 36 #[] .returning w fun e u' w' => e = .returned (.tuple #[]) ∧ u' = .returning ∧ w = w' := by
  refine callsD_of_wpS Tryd.func36 rfl fun c₀ cs hu => ?_
  apply wpS_region
  simp [wpOpsS, go_sem, recoverD, hu, Tryd.ntmps36, bodyPostS, results, Tryd.results36]
  cases c₀
  simp_all
set_option maxHeartbeats 400000 in
theorem recover38 (w : World) : CallsD Tryd.prog 38 #[] .returning w fun e u' w' => e = .returned (.tuple #[]) ∧ u' = .returning ∧ w = w' := by
  refine callsD_of_wpS Tryd.func38 rfl fun c₀ cs hu => ?_
  apply wpS_region
  simp [wpOpsS, go_sem, recoverD, hu, Tryd.ntmps38, bodyPostS, results, Tryd.results38]
  cases c₀
  simp_all
set_option maxHeartbeats 400000 in
theorem recover40 (w : World) : CallsD Tryd.prog 40 #[] .returning w fun e u' w' => e = .returned (.tuple #[]) ∧ u' = .returning ∧ w = w' := by
  refine callsD_of_wpS Tryd.func40 rfl fun c₀ cs hu => ?_
  apply wpS_region
  simp [wpOpsS, go_sem, recoverD, hu, Tryd.ntmps40, bodyPostS, results, Tryd.results40]
  cases c₀
  simp_all

set_option maxHeartbeats 1000000 in
theorem is24 (E : Value) (x : Int) (b : Bool) (w : World)
    (h37 : Calls Tryd.prog 37 #[E, .iface 33 (.int .i64 x)] w fun e w' => e = .returned (.bool b) ∧ Below w.heap.size w w') :
    Calls Tryd.prog 24 #[E, .int .i64 x] w fun e w' => e = .returned (.bool b) ∧ Below w.heap.size w w' := by
  have hmf : ∀ (fn : Fn) (first cap : Array Value) (w : World), (Instr.makeFunc fn first cap).run Tryd.prog w = .ok (.func fn first cap) w := fun _ _ _ _ => rfl
  have h37w := Lib.hid h37
  clear h37
  go_enter_defers Tryd.func24, Tryd.ntmps24
  go_wp2_with (go_at_call 37; refine h37w.out.mono ?_; rintro e w1 ⟨rfl, hR⟩; have HR := Lib.hid hR; clear hR)
  refine leaves_cons (f := 36) (args := #[]) (by simp) (by simp [go_sem]) ?_
  refine (recover36 _).mono ?_
  rintro e u' w'' ⟨rfl, rfl, rfl⟩
  exact ⟨_, results_tmp rfl _ _ _, rfl, HR.out⟩

/-- blob.Is over a failure, wrapped k times. -/
theorem bis_fail (k b o : Nat) (a x : Int) (w : World) (hc : w.cell? ⟨b, o + 1, none⟩ = some (.int .i64 a)) :
    Calls Tryd.prog 24 #[errV (.iface 56 (.pointer (some ⟨b, o, none⟩))) k, .int .i64 x] w fun e w' => e = .returned (.bool (decide (a = x))) ∧ Below w.heap.size w w' := by
  refine is24 _ x _ w ?_
  obtain ⟨t, v, hev⟩ := errV_iface56 ⟨b, o, none⟩ k
  have h := is43_fail k b o a x w hc
  rw [hev] at h ⊢
  exact is37 t v x _ w h
/-- blob.Is over a number, wrapped k times. -/
theorem bis_num (k : Nat) (a x : Int) (w : World) :
    Calls Tryd.prog 24 #[errV (.iface 33 (.int .i64 a)) k, .int .i64 x] w fun e w' => e = .returned (.bool (decide (a = x))) ∧ Below w.heap.size w w' := by
  refine is24 _ x _ w ?_
  obtain ⟨t, v, hev⟩ := errV_iface33 a k
  have h := is43_num k a x w
  rw [hev] at h ⊢
  exact is37 t v x _ w h
/-- blob.Is over nil. -/
theorem bis_nil (x : Int) (w : World) :
    Calls Tryd.prog 24 #[.nilIface, .int .i64 x] w fun e w' => e = .returned (.bool false) ∧ Below w.heap.size w w' := is24 _ x _ w (is37_nil x w)
end Go.Proofs.YtamcmkeoiomeiaaDoor
