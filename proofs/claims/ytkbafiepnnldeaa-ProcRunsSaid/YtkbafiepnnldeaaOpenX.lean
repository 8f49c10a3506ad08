/-
  Arguments opened: a list of calls; a number.
-/
import Derived.Test.YtkbafiepnnldeaaLift
import Derived.Deep.Slices
import Derived.Deep.Fields
import Derived.SizedLaws
namespace Go.Proofs.Ytkbafiepnnldeaa
open Go.ChangeShapes Go.WideShapes Go.ChangeAt Go.RowKit Go.Deep

/-- From address A on n elements of C cells lie, the i-th of which holds F i. -/
def Arr (w : World) (A : Option Addr) (C n : Nat) (F : Nat → List Value) : Prop :=
  ∀ i, i < n → ∃ b o, A = some ⟨b, o, none⟩ ∧ ∀ j u, (F i)[j]? = some u → w.cell? ⟨b, o + i * C + j, none⟩ = some u
theorem Arr.keep {w w' : World} {A : Option Addr} {C n : Nat} {F : Nat → List Value} (h : Arr w A C n F) (hb : Below w.heap.size w w') : Arr w' A C n F := fun i hi => by
  obtain ⟨b, o, e, hc⟩ := h i hi
  exact ⟨b, o, e, fun j u hu => by rw [hb.cell (cell_lt (hc j u hu))]; exact hc j u hu⟩
theorem Arr.at {w : World} {b o C n : Nat} {F : Nat → List Value} (h : Arr w (some ⟨b, o, none⟩) C n F) {i j : Nat} {u : Value} (hi : i < n) (hu : (F i)[j]? = some u) : w.cell? ⟨b, o + i * C + j, none⟩ = some u := by
  obtain ⟨b', o', e, hc⟩ := h i hi
  injection e with e
  injection e with e1 e2
  rw [e1, e2]
  exact hc j u hu
theorem Arr.head {w : World} {A : Option Addr} {C n : Nat} {F : Nat → List Value} (h : Arr w A C n F) {i : Nat} (hi : i < n) : ∃ b o, A = some ⟨b, o, none⟩ := by
  obtain ⟨b, o, e, _⟩ := h i hi
  exact ⟨b, o, e⟩


/-- A call as a law is given it: what, who, its priority. -/
abbrev CallA := Int × Int × Int
def dX : CallA := (0, 0, 0)
def xC (y : CallA) : List Value := [nV y.1, nV y.2.1, nV y.2.2]
def I64 (x : Int) : Prop := -9223372036854775808 ≤ x ∧ x ≤ 9223372036854775807
def WfCall (y : CallA) : Prop := I64 y.1 ∧ I64 y.2.1 ∧ I64 y.2.2
def CallsAt (w : World) (A : Option Addr) (l : List CallA) : Prop := Arr w A 3 l.length fun i => xC (l.getD i dX)

section
variable {H : Type} {en : TypeId × Value → H} {w : World} {base : Nat} {sp : Nat → Bool}
theorem one_i64 {n : Nat} {cs : List Value} {x : DataW H × List MemPlace} (h : DataW.trod en Try.prog w base sp true n 3 cs = some x) : ∃ z, cs = [.int .i64 z] ∧ (-9223372036854775808 ≤ z ∧ z ≤ 9223372036854775807) := by
  obtain ⟨z, rfl, _, hw⟩ := DataW.trod_int Try.underlying3 h
  have hb := hw
  simp only [Lit.wf, Bool.and_eq_true, decide_eq_true_eq] at hb
  have h1 : -9223372036854775808 ≤ z := hb.1
  have h2 : z ≤ 9223372036854775807 := hb.2
  exact ⟨z, rfl, by omega⟩
set_option maxRecDepth 100000 in
theorem call_of {n : Nat} {cs : List Value} {x : DataW H × List MemPlace} (h : DataW.trod en Try.prog w base sp true n 36 cs = some x) : ∃ y : CallA, cs = xC y ∧ WfCall y := by
  obtain ⟨xs, m, _, _, hlen, hx, hf⟩ := DataW.trod_struct Try.underlying36 h
  rw [cells36] at hlen
  have hx : xs.length = 3 := hx
  clear h
  match cs, hlen, xs, hx with
  | [a0, a1, a2], _, [y0, y1, y2], _ =>
    have h0 : DataW.trod en Try.prog w base sp true m 3 [a0] = some y0 := by simpa [cells3] using hf 0 _ rfl
    obtain ⟨z0, e0, b0⟩ := one_i64 h0
    have h1 : DataW.trod en Try.prog w base sp true m 3 [a1] = some y1 := by simpa [cells3] using hf 1 _ rfl
    obtain ⟨z1, e1, b1⟩ := one_i64 h1
    have h2 : DataW.trod en Try.prog w base sp true m 3 [a2] = some y2 := by simpa [cells3] using hf 2 _ rfl
    obtain ⟨z2, e2, b2⟩ := one_i64 h2
    injection e0 with e0
    subst e0
    injection e1 with e1
    subst e1
    injection e2 with e2
    subst e2
    exact ⟨(z0, z1, z2), rfl, b0, b1, b2⟩

theorem arr_of {α : Type} {C n : Nat} {a : Addr} {V : α → List Value} {Wf : α → Prop} (d : α) (hC : 0 < C) (hV : ∀ x, (V x).length = C)
    (h : ∀ i, i < n → ∃ y, w.cells? base (a.add (i * C)) C = some (V y) ∧ Wf y) :
    ∃ l : List α, l.length = n ∧ (∀ y ∈ l, Wf y) ∧ Arr w (some a) C n fun i => V (l.getD i d) := by
  classical
  let f : Nat → α := fun i => if hi : i < n then Classical.choose (h i hi) else d
  have hf : ∀ i, i < n → w.cells? base (a.add (i * C)) C = some (V (f i)) ∧ Wf (f i) := fun i hi => by
    have := Classical.choose_spec (h i hi)
    simp only [f, dif_pos hi]
    exact this
  have hg : ∀ i, i < n → ((List.range n).map f).getD i d = f i := fun i hi => by simp [List.getD, hi]
  refine ⟨(List.range n).map f, by simp, fun y hy => ?_, fun i hi => ?_⟩
  · obtain ⟨i, hi, rfl⟩ := List.mem_map.1 hy
    exact (hf i (List.mem_range.1 hi)).2
  · obtain ⟨_, hl, hc⟩ := World.cells?_some (hf i hi).1
    obtain ⟨b, o, spot⟩ := a
    have hs : spot = none := by
      obtain ⟨_, hl0, hc0⟩ := World.cells?_some (hf 0 (by omega)).1
      have h0 := hc0 0 hC
      obtain ⟨u, hu⟩ : ∃ u, (V (f 0))[0]? = some u := ⟨_, List.getElem?_eq_getElem (by rw [hl0]; exact hC)⟩
      rw [hu] at h0
      simpa [Addr.add] using World.cell?_spot h0
    subst hs
    refine ⟨b, o, rfl, fun j u hu => ?_⟩
    simp only [hg i hi] at hu
    have hj : j < C := by
      rw [← hV (f i)]
      exact (List.getElem?_eq_some_iff.1 hu).1
    have := hc j hj
    rw [hu, Go.WideShapes.add_plain, Go.WideShapes.add_plain] at this
    exact this

/-- Within the reach. -/
def Sized (t : TypeId) (x : DataW H × List MemPlace) : Prop := ∀ k ∈ x.1.weights Try.prog t, k ≤ reachBytes
theorem weightsAll_mem {e : TypeId} {l : List (DataW H)} {d : DataW H} (h : d ∈ l) {k : Nat} (hk : k ∈ d.weights Try.prog e) : k ∈ DataW.weightsAll Try.prog e l := by
  induction l with
  | nil => cases h
  | cons a r ih =>
    simp only [DataW.weightsAll, List.mem_append]
    rcases List.mem_cons.1 h with rfl | h
    · exact .inl hk
    · exact .inr (ih h)

/-- A slice that is read is a list. -/
theorem row_of {α : Type} {t e C n : Nat} {V : α → List Value} {Wf : α → Prop} {cs : List Value} {x : DataW H × List MemPlace} (d : α) (ht : Try.prog.underlying t = some (.slice e)) (hC : Try.prog.cellsOf e = C) (h0 : 0 < C) (hV : ∀ x, (V x).length = C) (hb : Nat.blt 0 (Try.prog.bytesOf e) = true)
    (hel : ∀ (n : Nat) (cs : List Value) (x : DataW H × List MemPlace), DataW.trod en Try.prog w base sp true n e cs = some x → Sized e x → ∃ y, cs = V y ∧ Wf y)
    (h : DataW.trod en Try.prog w base sp true n t cs = some x) (hsz : Sized t x) :
    ∃ (A : Option Addr) (cap : Nat) (l : List α), cs = [.slice A l.length cap] ∧ (∀ y ∈ l, Wf y) ∧ (Arr w A C l.length fun i => V (l.getD i d)) ∧ (l.length ≤ cap ∧ l.length ≤ 140737488355328) ∧ cap ≤ maxLen ∧ (A = none → cap = 0) := by
  rcases open_slice ht h with ⟨rfl, _⟩ | ⟨a, len, cap, m, n', D, Pl, rfl, _, hl, hm, hmm, hx, hi⟩
  · exact ⟨none, 0, [], rfl, by simp, (fun i hi => by simp at hi), by simp, by simp, fun _ => rfl⟩
  · have hlm : len ≤ m := by rw [hmm]; split <;> omega
    rw [hC] at hi
    obtain ⟨l, h1, h2, h3⟩ := arr_of (w := w) (base := base) (n := len) (a := a) (V := V) (Wf := Wf) d h0 hV fun i hin => by
      obtain ⟨cs', hc, ht'⟩ := hi i (by omega)
      obtain ⟨y, rfl, hy⟩ := hel _ _ _ ht' fun k hk => hsz k (by
        rw [hx]
        simp only [DataW.weights, ht]
        exact List.mem_cons_of_mem _ (List.mem_append_left _ (weightsAll_mem (List.mem_map.2 ⟨i, List.mem_range.2 hin, rfl⟩) hk)))
      exact ⟨y, hc, hy⟩
    subst h1
    have hlen : l.length ≤ 140737488355328 := by
      have h1 : 1 ≤ Try.prog.bytesOf e := Nat.le_of_ble_eq_true hb
      have h2 := hsz (((List.range l.length).map D).length * Try.prog.bytesOf e + ((List.range (m - l.length)).map fun j => D (l.length + j)).length * Try.prog.bytesOf e) (by
        rw [hx]
        simp only [DataW.weights, ht, Nat.add_mul]
        exact List.mem_cons_self)
      have h3 := Nat.le_mul_of_pos_right l.length h1
      simp only [List.length_map, List.length_range] at h2
      unfold reachBytes at h2
      omega
    exact ⟨some a, cap, l, rfl, h2, h3, ⟨hl, hlen⟩, hm, fun e => by cases e⟩

theorem calls_of {n : Nat} {cs : List Value} {x : DataW H × List MemPlace} (h : DataW.trod en Try.prog w base sp true n 23 cs = some x) (hs : Sized 23 x) :
    ∃ (A : Option Addr) (cap : Nat) (l : List CallA), cs = [.slice A l.length cap] ∧ (∀ y ∈ l, WfCall y) ∧ CallsAt w A l ∧ (l.length ≤ cap ∧ l.length ≤ 140737488355328) ∧ cap ≤ maxLen ∧ (A = none → cap = 0) :=
  row_of dX Try.underlying23 cells36 (by omega) (fun _ => rfl) (by kernel_rfl) (fun _ _ _ h _ => call_of h) h hs
end
section
variable {H : Type} {en : TypeId × Value → H} {w : World} {base b0 : Nat} {sp : Nat → Bool} {r : Reach} {v : Value} {d : DataW H} {p : List MemPlace}
set_option maxRecDepth 100000 in
theorem calls_arg (hv : Value.okWide Try.prog w r b0 23 v) (h : DataW.Trod en Try.prog w base sp true 23 v d p) (hs : ∀ k ∈ d.weights Try.prog 23, k ≤ reachBytes) : ∃ (A : Option Addr) (cap : Nat) (l : List CallA), v = .slice A l.length cap ∧ (∀ y ∈ l, WfCall y) ∧ CallsAt w A l ∧ l.length ≤ 140737488355328 := by
  obtain ⟨a, len, cap, rfl⟩ := okWide_slice Try.underlying23 hv
  obtain ⟨fuel, hf⟩ := h
  obtain ⟨A, cap', l, e, h1, h2, h3, _⟩ := calls_of hf hs
  simp [Value.cells] at e
  obtain ⟨rfl, rfl, rfl⟩ := e
  exact ⟨_, _, l, rfl, h1, h2, h3.2⟩
theorem okWide_call (hv : Value.okWide Try.prog w r b0 36 v) : ∃ cs, v = .agg cs := by
  simp only [Value.okWide, Try.underlying36] at hv
  obtain ⟨cs, h1, _⟩ := hv
  exact ⟨cs, h1⟩
set_option maxRecDepth 100000 in
theorem call_arg (hv : Value.okWide Try.prog w r b0 36 v) (h : DataW.Trod en Try.prog w base sp true 36 v d p) : ∃ a b c : Int, v = .agg #[nV a, nV b, nV c] := by
  obtain ⟨cs, rfl⟩ := okWide_call hv
  obtain ⟨fuel, hf⟩ := h
  obtain ⟨⟨a, b, c⟩, e, _⟩ := call_of hf
  have e2 : cs = #[nV a, nV b, nV c] := Array.toList_inj.1 e
  exact ⟨a, b, c, by rw [e2]⟩
end
end Go.Proofs.Ytkbafiepnnldeaa
