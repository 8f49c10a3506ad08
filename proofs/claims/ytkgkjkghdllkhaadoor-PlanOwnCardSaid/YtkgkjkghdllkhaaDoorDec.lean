/-
  plan.Decode.
-/
import Derived.Test.YtkgkjkghdllkhaaDoorDecG
import Derived.Test.YtkgkjkghdllkhaaDoorSpecA
import Derived.Test.YtkgkjkghdllkhaaDoorWhy
import Derived.Test.YtkgkjkghdllkhaaDoorCall
namespace Go.Proofs.YtkgkjkghdllkhaaDoor
open Go.RowKit

theorem flat_get {α : Type} (f : α → List Value) (C : Nat) (d : α) : ∀ (l : List α), (∀ x ∈ l, (f x).length = C) → ∀ i j, i < l.length → j < C → (l.flatMap f)[i * C + j]? = (f (l.getD i d))[j]?
  | [], _, i, j, hi, _ => by simp at hi
  | x :: r, hl, i, j, hi, hj => by
    have hx := hl x (List.mem_cons_self ..)
    cases i with
    | zero =>
      rw [List.flatMap_cons, List.getElem?_append_left (by omega)]
      simp
    | succ i =>
      rw [List.flatMap_cons, List.getElem?_append_right (by rw [hx]; simp [Nat.succ_mul]; omega), hx, show (i + 1) * C + j - C = i * C + j by rw [Nat.succ_mul]; omega]
      rw [flat_get f C d r (fun y hy => hl y (List.mem_cons_of_mem _ hy)) i j (by simpa using hi) hj]
      simp
theorem arr_own {w : World} {base E C n c : Nat} {A : Option Addr} {xs : List Value} (h : w.ownsRow base E C (.slice A n c) n xs) (F : Nat → List Value) (hF : ∀ i j u, i < n → (F i)[j]? = some u → xs[i * C + j]? = some u) : Arr w A C n F := fun i hi => by
  rcases h.2 with ⟨e, hn⟩ | ⟨g, cap, cur, e, _, hg, _⟩
  · omega
  · injection e with e1 e2 e3
    subst e1
    refine ⟨g, 0, rfl, fun j u hu => ?_⟩
    have := World.ownsRow.cells h (g := g) rfl (i * C + j) u (hF i j u hi hu)
    rw [add_lit] at this
    rw [Nat.add_assoc]
    exact this
theorem arr_flat {α : Type} {w : World} {base E C c : Nat} {A : Option Addr} {l : List α} {f : α → List Value} {d : α} (h : w.ownsRow base E C (.slice A l.length c) l.length (l.flatMap f)) (hf : ∀ x, (f x).length = C) : Arr w A C l.length fun i => f (l.getD i d) :=
  arr_own h _ fun i j u hi hu => by
    have hj : j < C := by
      have := (List.getElem?_eq_some_iff.1 hu).1
      rw [hf] at this
      exact this
    rw [flat_get f C d l (fun x _ => hf x) i j hi hj]
    exact hu
theorem OwnC.at {w : World} {base c : Nat} {A : Option Addr} {cs : List (List WinA)} (h : OwnC w base (.slice A cs.length c) cs) : CoresAt w A cs := by
  obtain ⟨vs, h1, h2, h3⟩ := h
  refine ⟨fun i => match vs.getD i .nilIface with | .slice A' _ c' => (A', c') | _ => (none, 0), arr_own h2 _ fun i j u hi hu => ?_, fun i hi => ?_⟩
  · obtain ⟨A', c', e, _⟩ := own_form (h3 i hi)
    simp only [e, slV] at hu
    cases j with
    | zero =>
      simp only [List.getElem?_cons_zero] at hu
      injection hu with hu
      subst hu
      rw [Nat.mul_one, Nat.add_zero, ← e, List.getD_eq_getElem?_getD, List.getElem?_eq_getElem (by omega)]
      rfl
    | succ j => simp at hu
  · obtain ⟨A', c', e, _⟩ := own_form (h3 i hi)
    have := h3 i hi
    rw [e] at this
    simp only [e]
    exact arr_flat this (fun _ => rfl)
theorem OwnP.at {w : World} {base c : Nat} {A : Option Addr} {ps : List PartA} (h : OwnP w base (.slice A ps.length c) ps) : PartsAt w A ps := by
  obtain ⟨vs, h1, h2, h3⟩ := h
  refine ⟨fun i => match (vs.getD i (.nilIface, .nilIface)).1 with | .slice A' _ c' => (A', c') | _ => (none, 0), fun i => match (vs.getD i (.nilIface, .nilIface)).2 with | .slice A' _ c' => (A', c') | _ => (none, 0), arr_own h2 _ fun i j u hi hu => ?_, fun i hi => ?_⟩
  · obtain ⟨A1, c1, e1, _⟩ := own_form (h3 i hi).1
    obtain ⟨A2, c2, e2, _⟩ := own_form (h3 i hi).2
    have hj : j < 6 := (List.getElem?_eq_some_iff.1 hu).1
    rw [flat_get pcell 6 ((.nilIface, .nilIface), dQ) _ (fun _ _ => rfl) i j (by rw [List.length_zip, h1]; omega) hj]
    have hz : (vs.zip ps).getD i ((.nilIface, .nilIface), dQ) = (vs.getD i (.nilIface, .nilIface), ps.getD i dQ) := by
      rw [List.getD_eq_getElem?_getD, List.getD_eq_getElem?_getD, List.getD_eq_getElem?_getD, List.getElem?_eq_getElem (by rw [List.length_zip, h1]; omega), List.getElem?_eq_getElem (by omega), List.getElem?_eq_getElem hi]
      simp
    rw [hz, pcell]
    simp only [partV, e1, e2, slV] at hu ⊢
    exact hu
  · obtain ⟨A1, c1, e1, z1⟩ := own_form (h3 i hi).1
    obtain ⟨A2, c2, e2, z2⟩ := own_form (h3 i hi).2
    have t1 := (h3 i hi).1
    have t2 := (h3 i hi).2
    rw [e1] at t1
    rw [e2] at t2
    simp only [e1, e2]
    exact ⟨arr_flat t1 (fun _ => rfl), arr_flat (f := fun z => [bV z]) t2 (fun _ => rfl), z2⟩
theorem PlanOwn.at {w : World} {base : Nat} {P : PlanA} {L : PlanL} (h : PlanOwn w base P L) : PlanAt w P L :=
  ⟨h.cores.at, h.parts.at, arr_flat h.chans (fun _ => rfl), arr_flat h.pairs (fun _ => rfl)⟩
end Go.Proofs.YtkgkjkghdllkhaaDoor
