/-
  errors.As at the two targets of package blob, over errors that are wrapped any number of times.
-/
import Derived.Test.YtamcmkeoiomeiaaDoorRefl
import Derived.Deep.LoopGhost
import Derived.WalkSmall
namespace Go.Proofs.YtamcmkeoiomeiaaDoor
open Go.RowKit Go.Extern.Stop Go.Stop Go.Extern

/-- An error, wrapped k times. -/
def errV (v : Value) : Nat → Value
  | 0 => v
  | k + 1 => .iface 60 (.agg #[errV v k])

theorem cell_lt {w : World} {a : Addr} {v : Value} (h : w.cell? a = some v) : a.block < w.heap.size := by
  rcases Nat.lt_or_ge a.block w.heap.size with h' | h'
  · exact h'
  · simp [World.cell?, Array.getElem?_eq_none h'] at h

/-- (wrap).Unwrap -/
theorem unw60 (v : Value) (w : World) :
    Calls Tryd.prog 71 #[.agg #[v]] w fun e w' => e = .returned v ∧ Below w.heap.size w w' := by
  go_enter Tryd.func71, Tryd.ntmps71
  go_wp2
  go_ret
  exact ⟨rfl, (Below.refl _ _).alloc (Nat.le_refl _) _⟩
/-- (*Failure).Unwrap -/
theorem unw56 (b o : Nat) (x : Int) (w : World) (h : w.cell? ⟨b, o + 1, none⟩ = some (.int .i64 x)) :
    Calls Tryd.prog 69 #[.pointer (some ⟨b, o, none⟩)] w fun e w' => e = .returned (.iface 33 (.int .i64 x)) ∧ w = w' := by
  go_enter Tryd.func69, Tryd.ntmps69
  go_wp2
  go_ret
  exact ⟨rfl, rfl⟩

theorem oneCell_iface (t : TypeId) (v : Value) : (Value.iface t v).oneCell' = true := rfl
theorem oneCell_nil : Value.nilIface.oneCell' = true := rfl
theorem errV_succ (v : Value) (k : Nat) : errV v (k + 1) = .iface 60 (.agg #[errV v k]) := rfl

theorem run_eql_iface_nil (t : TypeId) (v : Value) (w : World) : (binOp .eql 37 (.iface t v) .nilIface).run Tryd.prog w = .ok (.bool false) w := by
  have h : ∀ d : Nat, (Op.equalIn (d + 1) 37 (.iface t v) .nilIface).run Tryd.prog w = .ok false w := fun d => by simp [Op.equalIn, run_underlying Tryd.underlying37]
  simp only [binOp]
  simp [Op.equal, Op.maxDepth, h 9999]
theorem errV_iface56 (p : Addr) (j : Nat) : ∃ t v, errV (.iface 56 (.pointer (some p))) j = .iface t v := by
  cases j <;> exact ⟨_, _, rfl⟩
theorem errV_iface33 (x : Int) (j : Nat) : ∃ t v, errV (.iface 33 (.int .i64 x)) j = .iface t v := by
  cases j <;> exact ⟨_, _, rfl⟩

set_option maxHeartbeats 1000000 in
/-- errors.as over a failure that is wrapped k times, at a variable of type *Failure. -/
theorem as47_hit56 (k : Nat) (p vb : Addr) (T : Nat) (tg old : Value) (w : World)
    (hv : w.cell? vb = some (.pointer (some ⟨T, 0, none⟩))) (ht : w.cell? ⟨T, 0, none⟩ = some old) (hf : w.frozen? ⟨T, 0, none⟩ = false) :
    Calls Tryd.prog 47 #[errV (.iface 56 (.pointer (some p))) k, tg, Vl 80 vb 150, Rt 56] w fun e w' => e = .returned (.bool true) ∧ w'.cell? ⟨T, 0, none⟩ = some (.pointer (some p)) ∧ Below T w w' := by
  have x42 := x42
  have x44 := x44
  have x48 := x48
  have x49 := x49
  have x76 := x76
  have t56 := typeOf56
  have t60 := typeOf60
  have mA := methodAssignableTo
  have a56 := assign56_56
  have a60 := assign60_56
  have v56 := valueOf56
  have mU := methodUnwrap60
  have n60 := noAs60
  have u60 := unwrap60
  have hvl := cell_lt hv
  have htl := cell_lt ht
  have HV := Lib.hid hv
  have HT := Lib.hid ht
  have HF := Lib.hid hf
  clear hv ht hf
  go_enter Tryd.func47, Tryd.ntmps47
  go_wp2
  go_loopg [0] k (fun j e wr => e = errV (.iface 56 (.pointer (some p))) j ∧ Below (w.heap.size + 1) (w.alloc (.cells #[H 80, .pointer (some vb), .int .u64 150] 91)) wr)
  case atStart => exact ⟨rfl, Below.refl _ _⟩
  case round =>
    obtain ⟨rfl, hB⟩ := hrel
    have HB := Lib.hid hB
    clear hB
    have c0 : wr.cell? ⟨w.heap.size, 0, none⟩ = some (H 80) := by rw [HB.out.cell (by simp)]; simp
    have c1 : wr.cell? ⟨w.heap.size, 1, none⟩ = some (.pointer (some vb)) := by rw [HB.out.cell (by simp)]; simp
    have c2 : wr.cell? ⟨w.heap.size, 2, none⟩ = some (.int .u64 150) := by rw [HB.out.cell (by simp)]; simp
    have hvw : wr.cell? vb = some (.pointer (some ⟨T, 0, none⟩)) := by rw [HB.out.cell (by omega), World.cell?_alloc_lt _ _ _ hvl]; exact HV.out
    have el := elemV80 vb ⟨T, 0, none⟩ wr hvw
    cases gk with
    | zero =>
      have hTw : wr.cell? ⟨T, 0, none⟩ = some old := by rw [HB.out.cell (by simp at htl ⊢; omega), World.cell?_alloc_lt _ _ _ htl]; exact HT.out
      have hFw : wr.frozen? ⟨T, 0, none⟩ = false := by rw [HB.out.frozen (by simp at htl ⊢; omega), World.frozen?_alloc_old _ _ _ (Nat.ne_of_lt htl)]; exact HF.out
      have hTl := cell_lt hTw
      have st := set56 ⟨T, 0, none⟩ ⟨wr.heap.size, 0, none⟩ p old (wr.alloc (.cells #[.pointer (some p)] 56)) (by rw [World.cell?_alloc_at _ _ _ _ rfl]; rfl)
        (by rw [World.cell?_alloc_lt _ _ _ hTl]; exact hTw) (by rw [World.frozen?_alloc_old _ _ _ (Nat.ne_of_lt hTl)]; exact hFw)
      have HTw := Lib.hid hTw
      clear hTw hFw
      simp only [errV]
      go_wp2
      go_ret
      have hs := HB.out.size
      simp at htl hTl hs
      refine ⟨rfl, ?_, ?_⟩
      · rw [World.cell?_alloc_lt _ _ _ (by simpa [World.setCell] using hTl)]
        exact World.cell?_setCell_same _ _ _ HTw.out
      · exact ((((Below.refl T w).alloc (by omega) _).trans (HB.out.mono (by omega))).setCell (p := ⟨T, 0, none⟩) (Nat.le_refl _) _).alloc (by simp [World.setCell]; omega) _
    | succ j =>
      obtain ⟨t, v, hev⟩ := errV_iface56 p j
      have hnil := run_eql_iface_nil t v
      rw [errV_succ, hev]
      have HE := Lib.hid hev
      clear hev
      go_wp2_with (go_at_call 71; refine (unw60 _ _).mono ?_; rintro e w1 ⟨rfl, hB1⟩)
      go_roundg j
      case measure => omega
      case rel => exact ⟨HE.out.symm, HB.out.trans (hB1.mono (by have := HB.out.size; simp at this; omega))⟩
set_option maxHeartbeats 1000000 in
/-- errors.as over a number that is wrapped k times, at a variable of type Errno. -/
theorem as47_hit33 (k : Nat) (x : Int) (vb : Addr) (T : Nat) (tg old : Value) (w : World)
    (hv : w.cell? vb = some (.pointer (some ⟨T, 0, none⟩))) (ht : w.cell? ⟨T, 0, none⟩ = some old) (hf : w.frozen? ⟨T, 0, none⟩ = false) :
    Calls Tryd.prog 47 #[errV (.iface 33 (.int .i64 x)) k, tg, Vl 81 vb 150, Rt 33] w fun e w' => e = .returned (.bool true) ∧ w'.cell? ⟨T, 0, none⟩ = some (.int .i64 x) ∧ Below T w w' := by
  have x42 := x42
  have x44 := x44
  have x48 := x48
  have x49 := x49
  have x76 := x76
  have t33 := typeOf33
  have t60 := typeOf60
  have mA := methodAssignableTo
  have a33 := assign33_33
  have a60 := assign60_33
  have v33 := valueOf33
  have mU := methodUnwrap60
  have n60 := noAs60
  have u60 := unwrap60
  have hvl := cell_lt hv
  have htl := cell_lt ht
  have HV := Lib.hid hv
  have HT := Lib.hid ht
  have HF := Lib.hid hf
  clear hv ht hf
  go_enter Tryd.func47, Tryd.ntmps47
  go_wp2
  go_loopg [0] k (fun j e wr => e = errV (.iface 33 (.int .i64 x)) j ∧ Below (w.heap.size + 1) (w.alloc (.cells #[H 81, .pointer (some vb), .int .u64 150] 91)) wr)
  case atStart => exact ⟨rfl, Below.refl _ _⟩
  case round =>
    obtain ⟨rfl, hB⟩ := hrel
    have HB := Lib.hid hB
    clear hB
    have c0 : wr.cell? ⟨w.heap.size, 0, none⟩ = some (H 81) := by rw [HB.out.cell (by simp)]; simp
    have c1 : wr.cell? ⟨w.heap.size, 1, none⟩ = some (.pointer (some vb)) := by rw [HB.out.cell (by simp)]; simp
    have c2 : wr.cell? ⟨w.heap.size, 2, none⟩ = some (.int .u64 150) := by rw [HB.out.cell (by simp)]; simp
    have hvw : wr.cell? vb = some (.pointer (some ⟨T, 0, none⟩)) := by rw [HB.out.cell (by omega), World.cell?_alloc_lt _ _ _ hvl]; exact HV.out
    have el := elemV81 vb ⟨T, 0, none⟩ wr hvw
    cases gk with
    | zero =>
      have hTw : wr.cell? ⟨T, 0, none⟩ = some old := by rw [HB.out.cell (by simp at htl ⊢; omega), World.cell?_alloc_lt _ _ _ htl]; exact HT.out
      have hFw : wr.frozen? ⟨T, 0, none⟩ = false := by rw [HB.out.frozen (by simp at htl ⊢; omega), World.frozen?_alloc_old _ _ _ (Nat.ne_of_lt htl)]; exact HF.out
      have hTl := cell_lt hTw
      have st := set33 ⟨T, 0, none⟩ ⟨wr.heap.size, 0, none⟩ x old (wr.alloc (.cells #[.int .i64 x] 33)) (by rw [World.cell?_alloc_at _ _ _ _ rfl]; rfl)
        (by rw [World.cell?_alloc_lt _ _ _ hTl]; exact hTw) (by rw [World.frozen?_alloc_old _ _ _ (Nat.ne_of_lt hTl)]; exact hFw)
      have HTw := Lib.hid hTw
      clear hTw hFw
      simp only [errV]
      go_wp2
      go_ret
      have hs := HB.out.size
      simp at htl hTl hs
      refine ⟨rfl, ?_, ?_⟩
      · rw [World.cell?_alloc_lt _ _ _ (by simpa [World.setCell] using hTl)]
        exact World.cell?_setCell_same _ _ _ HTw.out
      · exact ((((Below.refl T w).alloc (by omega) _).trans (HB.out.mono (by omega))).setCell (p := ⟨T, 0, none⟩) (Nat.le_refl _) _).alloc (by simp [World.setCell]; omega) _
    | succ j =>
      obtain ⟨t, v, hev⟩ := errV_iface33 x j
      have hnil := run_eql_iface_nil t v
      rw [errV_succ, hev]
      have HE := Lib.hid hev
      clear hev
      go_wp2_with (go_at_call 71; refine (unw60 _ _).mono ?_; rintro e w1 ⟨rfl, hB1⟩)
      go_roundg j
      case measure => omega
      case rel => exact ⟨HE.out.symm, HB.out.trans (hB1.mono (by have := HB.out.size; simp at this; omega))⟩
set_option maxHeartbeats 1000000 in
/-- errors.as over a number that is wrapped k times, at a variable of type *Failure. -/
theorem as47_miss56 (k : Nat) (x : Int) (vb : Addr) (tg : Value) (w : World) :
    Calls Tryd.prog 47 #[errV (.iface 33 (.int .i64 x)) k, tg, Vl 80 vb 150, Rt 56] w fun e w' => e = .returned (.bool false) ∧ Below w.heap.size w w' := by
  have x42 := x42
  have x44 := x44
  have x48 := x48
  have x49 := x49
  have x76 := x76
  have t33 := typeOf33
  have t60 := typeOf60
  have mA := methodAssignableTo
  have a33 := assign33_56
  have a60 := assign60_56
  have n33 := noAs33
  have u33 := noUnwrap33
  have us33 := noUnwraps33
  have mU := methodUnwrap60
  have n60 := noAs60
  have u60 := unwrap60
  go_enter Tryd.func47, Tryd.ntmps47
  go_wp2
  go_loopg [0] k (fun j e wr => e = errV (.iface 33 (.int .i64 x)) j ∧ Below (w.heap.size + 1) (w.alloc (.cells #[H 80, .pointer (some vb), .int .u64 150] 91)) wr)
  case atStart => exact ⟨rfl, Below.refl _ _⟩
  case round =>
    obtain ⟨rfl, hB⟩ := hrel
    have HB := Lib.hid hB
    clear hB
    cases gk with
    | zero =>
      simp only [errV]
      go_wp2
      go_ret
      exact ⟨rfl, ((Below.refl _ _).alloc (Nat.le_refl _) _).trans (HB.out.mono (by omega))⟩
    | succ j =>
      obtain ⟨t, v, hev⟩ := errV_iface33 x j
      have hnil := run_eql_iface_nil t v
      rw [errV_succ, hev]
      have HE := Lib.hid hev
      clear hev
      go_wp2_with (go_at_call 71; refine (unw60 _ _).mono ?_; rintro e w1 ⟨rfl, hB1⟩)
      go_roundg j
      case measure => omega
      case rel => exact ⟨HE.out.symm, HB.out.trans (hB1.mono (by have := HB.out.size; simp at this; omega))⟩

set_option maxHeartbeats 1000000 in
/-- errors.as over a wrap of nil, at a variable of type *Failure. -/
theorem as47_nil56 (vb : Addr) (tg : Value) (w : World) :
    Calls Tryd.prog 47 #[.iface 60 (.agg #[.nilIface]), tg, Vl 80 vb 150, Rt 56] w fun e w' => e = .returned (.bool false) ∧ Below w.heap.size w w' := by
  have x42 := x42
  have x76 := x76
  have t60 := typeOf60
  have mA := methodAssignableTo
  have a60 := assign60_56
  have mU := methodUnwrap60
  have n60 := noAs60
  have u60 := unwrap60
  go_enter Tryd.func47, Tryd.ntmps47
  go_wp2
  refine wp_loop_rounds 1 ?_
  rw [rounds_succ]
  go_wp2_with (go_at_call 71; refine (unw60 _ _).mono ?_; rintro e w1 ⟨rfl, hB1⟩)
  go_ret
  exact ⟨rfl, ((Below.refl _ _).alloc (Nat.le_refl _) _).trans (hB1.mono (by simp))⟩

set_option maxHeartbeats 1000000 in
/-- errors.as over a wrap of nil, at a variable of type Errno. -/
theorem as47_nil33 (vb : Addr) (tg : Value) (w : World) :
    Calls Tryd.prog 47 #[.iface 60 (.agg #[.nilIface]), tg, Vl 81 vb 150, Rt 33] w fun e w' => e = .returned (.bool false) ∧ Below w.heap.size w w' := by
  have x42 := x42
  have x76 := x76
  have t60 := typeOf60
  have mA := methodAssignableTo
  have a60 := assign60_33
  have mU := methodUnwrap60
  have n60 := noAs60
  have u60 := unwrap60
  go_enter Tryd.func47, Tryd.ntmps47
  go_wp2
  refine wp_loop_rounds 1 ?_
  rw [rounds_succ]
  go_wp2_with (go_at_call 71; refine (unw60 _ _).mono ?_; rintro e w1 ⟨rfl, hB1⟩)
  go_ret
  exact ⟨rfl, ((Below.refl _ _).alloc (Nat.le_refl _) _).trans (hB1.mono (by simp))⟩

/-- The variable errors.errorType. -/
def GOk (w : World) : Prop := w.cell? ⟨0, 0, none⟩ = some (Rt 37)
theorem GOk.lt {w : World} (h : GOk w) : 0 < w.heap.size := cell_lt h
theorem GOk.below {B : Nat} {w w' : World} (h : GOk w) (hb : Below B w w') (hB : 0 < B) : GOk w' := by
  unfold GOk
  rw [hb.cell (p := ⟨0, 0, none⟩) hB]
  exact h

theorem as39_nil (t : Value) (w : World) :
    Calls Tryd.prog 39 #[.nilIface, t] w fun e w' => e = .returned (.bool false) ∧ w = w' := by
  go_enter Tryd.func39, Tryd.ntmps39
  go_wp2
  go_ret
  exact ⟨rfl, rfl⟩

set_option maxHeartbeats 4000000 in
/-- errors.As at a variable of type *Failure comes to errors.as. -/
theorem as39_80 (t : TypeId) (v : Value) (T : Addr) (w : World) (hG : GOk w) (b : Bool) (R : World → Prop)
    (h47 : ∀ vb w1, Below w.heap.size w w1 → w1.cell? vb = some (.pointer (some T)) → Calls Tryd.prog 47 #[.iface t v, .iface 80 (.pointer (some T)), Vl 80 vb 150, Rt 56] w1 fun e w' => e = .returned (.bool b) ∧ R w') :
    Calls Tryd.prog 39 #[.iface t v, .iface 80 (.pointer (some T))] w fun e w' => e = .returned (.bool b) ∧ R w' := by
  have x44 := x44
  have x45 := x45
  have x46 := x46
  have x64 := x64
  have x78 := x78
  have x79 := x79
  have f44 := valueOf80
  have f45 := type80
  have mK := methodKind
  have mE := methodElem
  have mI := methodImplements
  have k80 := kind80
  have k56 := kind56
  have e80 := elem80
  have i56 := implements56
  have hnil := run_eql_iface_nil t v
  have n46 := isNil80 ⟨w.heap.size, 0, none⟩ T ((w.alloc (.cells #[.pointer (some T)] 80)).alloc (.cells #[H 80, .pointer (some ⟨w.heap.size, 0, none⟩), .int .u64 150] 91)) (by simp)
  have hlt := hG.lt
  have hg2 : ((w.alloc (.cells #[.pointer (some T)] 80)).alloc (.cells #[H 80, .pointer (some ⟨w.heap.size, 0, none⟩), .int .u64 150] 91)).cell? ⟨0, 0, none⟩ = some (Rt 37) := by
    rw [World.cell?_alloc_lt _ _ ⟨0, 0, none⟩ (by simp), World.cell?_alloc_lt _ _ ⟨0, 0, none⟩ hlt]; exact hG
  have h47w := Lib.hid (h47 ⟨w.heap.size, 0, none⟩ ((w.alloc (.cells #[.pointer (some T)] 80)).alloc (.cells #[H 80, .pointer (some ⟨w.heap.size, 0, none⟩), .int .u64 150] 91))
    (((Below.refl _ _).alloc (Nat.le_refl _) _).alloc (by simp) _) (by simp))
  clear h47 hG
  go_enter Tryd.func39, Tryd.ntmps39
  go_wp2_with (go_at_call 47; refine h47w.out.mono ?_; rintro e w1 ⟨rfl, hR⟩; have HR := Lib.hid hR; clear hR)
  go_ret
  exact ⟨rfl, HR.out⟩
set_option maxHeartbeats 4000000 in
/-- errors.As at a variable of type Errno comes to errors.as. -/
theorem as39_81 (t : TypeId) (v : Value) (T : Addr) (w : World) (hG : GOk w) (b : Bool) (R : World → Prop)
    (h47 : ∀ vb w1, Below w.heap.size w w1 → w1.cell? vb = some (.pointer (some T)) → Calls Tryd.prog 47 #[.iface t v, .iface 81 (.pointer (some T)), Vl 81 vb 150, Rt 33] w1 fun e w' => e = .returned (.bool b) ∧ R w') :
    Calls Tryd.prog 39 #[.iface t v, .iface 81 (.pointer (some T))] w fun e w' => e = .returned (.bool b) ∧ R w' := by
  have x44 := x44
  have x45 := x45
  have x46 := x46
  have x64 := x64
  have x78 := x78
  have x79 := x79
  have f44 := valueOf81
  have f45 := type81
  have mK := methodKind
  have mE := methodElem
  have mI := methodImplements
  have k80 := kind81
  have k56 := kind33
  have e80 := elem81
  have i56 := implements33
  have hnil := run_eql_iface_nil t v
  have n46 := isNil81 ⟨w.heap.size, 0, none⟩ T ((w.alloc (.cells #[.pointer (some T)] 81)).alloc (.cells #[H 81, .pointer (some ⟨w.heap.size, 0, none⟩), .int .u64 150] 91)) (by simp)
  have hlt := hG.lt
  have hg2 : ((w.alloc (.cells #[.pointer (some T)] 81)).alloc (.cells #[H 81, .pointer (some ⟨w.heap.size, 0, none⟩), .int .u64 150] 91)).cell? ⟨0, 0, none⟩ = some (Rt 37) := by
    rw [World.cell?_alloc_lt _ _ ⟨0, 0, none⟩ (by simp), World.cell?_alloc_lt _ _ ⟨0, 0, none⟩ hlt]; exact hG
  have h47w := Lib.hid (h47 ⟨w.heap.size, 0, none⟩ ((w.alloc (.cells #[.pointer (some T)] 81)).alloc (.cells #[H 81, .pointer (some ⟨w.heap.size, 0, none⟩), .int .u64 150] 91))
    (((Below.refl _ _).alloc (Nat.le_refl _) _).alloc (by simp) _) (by simp))
  clear h47 hG
  go_enter Tryd.func39, Tryd.ntmps39
  go_wp2_with (go_at_call 47; refine h47w.out.mono ?_; rintro e w1 ⟨rfl, hR⟩; have HR := Lib.hid hR; clear hR)
  go_ret
  exact ⟨rfl, HR.out⟩
end Go.Proofs.YtamcmkeoiomeiaaDoor
