/-
  errors.As at the two targets of package blob, over errors that are wrapped any number of times.
-/
import Derived.Test.YtmfelkdcoihkpaaDoorRefl
import Derived.Deep.LoopGhost
import Derived.WalkSmall
namespace Go.Proofs.YtmfelkdcoihkpaaDoor
open Go.RowKit Go.Extern.Stop Go.Stop Go.Extern

theorem cell_lt {w : World} {a : Addr} {v : Value} (h : w.cell? a = some v) : a.block < w.heap.size := by
  rcases Nat.lt_or_ge a.block w.heap.size with h' | h'
  · exact h'
  · simp [World.cell?, Array.getElem?_eq_none h'] at h

/-- (*Failure).Unwrap -/
theorem unw56 (b o : Nat) (x : Int) (w : World) (h : w.cell? ⟨b, o + 1, none⟩ = some (.int .i64 x)) :
    Calls Tryd.prog 100 #[.pointer (some ⟨b, o, none⟩)] w fun e w' => e = .returned (.iface 31 (.int .i64 x)) ∧ w = w' := by
  go_enter Tryd.func100, Tryd.ntmps100
  go_wp2
  go_ret
  exact ⟨rfl, rfl⟩

/-- An error as it is (none wraps another here). -/
def errV (v : Value) : Nat → Value := fun _ => v
theorem oneCell_iface (t : TypeId) (v : Value) : (Value.iface t v).oneCell' = true := rfl
theorem oneCell_nil : Value.nilIface.oneCell' = true := rfl
theorem run_eql_iface_nil (t : TypeId) (v : Value) (w : World) : (binOp .eql 35 (.iface t v) .nilIface).run Tryd.prog w = .ok (.bool false) w := by
  have h : ∀ d : Nat, (Op.equalIn (d + 1) 35 (.iface t v) .nilIface).run Tryd.prog w = .ok false w := fun d => by simp [Op.equalIn, run_underlying Tryd.underlying35]
  simp only [binOp]
  simp [Op.equal, Op.maxDepth, h 9999]
theorem errV_iface56 (p : Addr) (j : Nat) : ∃ t v, errV (.iface 57 (.pointer (some p))) j = .iface t v := ⟨_, _, rfl⟩

set_option maxHeartbeats 2000000 in
set_option maxRecDepth 100000 in
/-- errors.as over a failure, at a variable of type *Failure. -/
theorem as47_hit56 (k : Nat) (p vb : Addr) (T : Nat) (tg old : Value) (w : World)
    (hv : w.cell? vb = some (.pointer (some ⟨T, 0, none⟩))) (ht : w.cell? ⟨T, 0, none⟩ = some old) (hf : w.frozen? ⟨T, 0, none⟩ = false) :
    Calls Tryd.prog 63 #[errV (.iface 57 (.pointer (some p))) k, tg, Vl 77 vb 150, Rt 57] w fun e w' => e = .returned (.bool true) ∧ w'.cell? ⟨T, 0, none⟩ = some (.pointer (some p)) ∧ Below T w w' := by
  have x42 := x42
  have x44 := x44
  have x48 := x48
  have x49 := x49
  have x76 := x76
  have t56 := typeOf57
  have mA := methodAssignableTo
  have a56 := assign56_56
  have v56 := valueOf56
  have hvl := cell_lt hv
  have htl := cell_lt ht
  have hvw : (w.alloc (.cells #[H 77, .pointer (some vb), .int .u64 150] 100)).cell? vb = some (.pointer (some ⟨T, 0, none⟩)) := by rw [World.cell?_alloc_lt _ _ _ hvl]; exact hv
  have el := elemV80 vb ⟨T, 0, none⟩ _ hvw
  have hTw : (w.alloc (.cells #[H 77, .pointer (some vb), .int .u64 150] 100)).cell? ⟨T, 0, none⟩ = some old := by rw [World.cell?_alloc_lt _ _ _ htl]; exact ht
  have hFw : (w.alloc (.cells #[H 77, .pointer (some vb), .int .u64 150] 100)).frozen? ⟨T, 0, none⟩ = false := by rw [World.frozen?_alloc_old _ _ _ (Nat.ne_of_lt htl)]; exact hf
  have hTl := cell_lt hTw
  have st := set56 ⟨T, 0, none⟩ ⟨w.heap.size + 1, 0, none⟩ p old ((w.alloc (.cells #[H 77, .pointer (some vb), .int .u64 150] 100)).alloc (.cells #[.pointer (some p)] 57)) (by rw [World.cell?_alloc_at _ _ _ _ (by simp)]; rfl)
    (by rw [World.cell?_alloc_lt _ _ _ hTl]; exact hTw) (by rw [World.frozen?_alloc_old _ _ _ (Nat.ne_of_lt hTl)]; exact hFw)
  have HT := Lib.hid ht
  clear hTw hFw hv ht hf
  unfold errV
  go_enter Tryd.func63, Tryd.ntmps63
  go_wp2
  refine wp_loop_rounds 1 ?_
  rw [rounds_succ]
  go_wp2
  go_ret
  simp at htl hTl
  refine ⟨rfl, ?_, ?_⟩
  · rw [World.cell?_alloc_lt _ _ _ (by simp [World.setCell]; omega), World.cell?_alloc_lt _ _ _ (by simp [World.setCell]; omega)]
    exact World.cell?_setCell_same _ _ _ HT.out
  · exact (((Below.refl T w).setCell (p := ⟨T, 0, none⟩) (Nat.le_refl _) _).alloc (by simp [World.setCell]; omega) _).alloc (by simp [World.setCell]; omega) _

/-- The variable errors.errorType. -/
def GOk (w : World) : Prop := w.cell? ⟨0, 0, none⟩ = some (Rt 35)
theorem GOk.lt {w : World} (h : GOk w) : 0 < w.heap.size := cell_lt h
theorem GOk.below {B : Nat} {w w' : World} (h : GOk w) (hb : Below B w w') (hB : 0 < B) : GOk w' := by
  unfold GOk
  rw [hb.cell (p := ⟨0, 0, none⟩) hB]
  exact h

theorem as39_nil (t : Value) (w : World) :
    Calls Tryd.prog 30 #[.nilIface, t] w fun e w' => e = .returned (.bool false) ∧ w = w' := by
  go_enter Tryd.func30, Tryd.ntmps30
  go_wp2
  go_ret
  exact ⟨rfl, rfl⟩

set_option maxHeartbeats 4000000 in
/-- errors.As at a variable of type *Failure comes to errors.as. -/
theorem as39_80 (t : TypeId) (v : Value) (T : Addr) (w : World) (hG : GOk w) (b : Bool) (R : World → Prop)
    (h47 : ∀ vb w1, Below w.heap.size w w1 → w1.cell? vb = some (.pointer (some T)) → Calls Tryd.prog 63 #[.iface t v, .iface 77 (.pointer (some T)), Vl 77 vb 150, Rt 57] w1 fun e w' => e = .returned (.bool b) ∧ R w') :
    Calls Tryd.prog 30 #[.iface t v, .iface 77 (.pointer (some T))] w fun e w' => e = .returned (.bool b) ∧ R w' := by
  have x44 := x44
  have x45 := x45
  have x46 := x46
  have x64 := x64
  have x78 := x78
  have x79 := x79
  have f44 := valueOf80
  have f45 := type80
  have mK := methodKind
  have mE := methodElem
  have mI := methodImplements
  have k80 := kind80
  have k56 := kind56
  have e80 := elem80
  have i56 := implements57
  have hnil := run_eql_iface_nil t v
  have n46 := isNil80 ⟨w.heap.size, 0, none⟩ T ((w.alloc (.cells #[.pointer (some T)] 77)).alloc (.cells #[H 77, .pointer (some ⟨w.heap.size, 0, none⟩), .int .u64 150] 100)) (by simp)
  have hlt := hG.lt
  have hg2 : ((w.alloc (.cells #[.pointer (some T)] 77)).alloc (.cells #[H 77, .pointer (some ⟨w.heap.size, 0, none⟩), .int .u64 150] 100)).cell? ⟨0, 0, none⟩ = some (Rt 35) := by
    rw [World.cell?_alloc_lt _ _ ⟨0, 0, none⟩ (by simp), World.cell?_alloc_lt _ _ ⟨0, 0, none⟩ hlt]; exact hG
  have h47w := Lib.hid (h47 ⟨w.heap.size, 0, none⟩ ((w.alloc (.cells #[.pointer (some T)] 77)).alloc (.cells #[H 77, .pointer (some ⟨w.heap.size, 0, none⟩), .int .u64 150] 100))
    (((Below.refl _ _).alloc (Nat.le_refl _) _).alloc (by simp) _) (by simp))
  clear h47 hG
  go_enter Tryd.func30, Tryd.ntmps30
  go_wp2_with (go_at_call 63; refine h47w.out.mono ?_; rintro e w1 ⟨rfl, hR⟩; have HR := Lib.hid hR; clear hR)
  go_ret
  exact ⟨rfl, HR.out⟩
end Go.Proofs.YtmfelkdcoihkpaaDoor
