/-
  Arguments opened: numbers in a list, kinds, lists of kinds.
-/
import Derived.Test.YtcjhbmkpfclmfaaDoorLift
import Derived.Deep.Slices
import Derived.Deep.Fields
import Derived.SizedLaws
namespace Go.Proofs.YtcjhbmkpfclmfaaDoor
open Go.ChangeShapes Go.WideShapes Go.ChangeAt Go.RowKit Go.Deep

/-- From address A on n elements of C cells lie, the i-th of which holds F i. -/
def Arr (w : World) (A : Option Addr) (C n : Nat) (F : Nat → List Value) : Prop :=
  ∀ i, i < n → ∃ b o, A = some ⟨b, o, none⟩ ∧ ∀ j u, (F i)[j]? = some u → w.cell? ⟨b, o + i * C + j, none⟩ = some u
theorem Arr.keep {w w' : World} {A : Option Addr} {C n : Nat} {F : Nat → List Value} (h : Arr w A C n F) (hb : Below w.heap.size w w') : Arr w' A C n F := fun i hi => by
  obtain ⟨b, o, e, hc⟩ := h i hi
  exact ⟨b, o, e, fun j u hu => by rw [hb.cell (cell_lt (hc j u hu))]; exact hc j u hu⟩
theorem Arr.at {w : World} {b o C n : Nat} {F : Nat → List Value} (h : Arr w (some ⟨b, o, none⟩) C n F) {i j : Nat} {u : Value} (hi : i < n) (hu : (F i)[j]? = some u) : w.cell? ⟨b, o + i * C + j, none⟩ = some u := by
  obtain ⟨b', o', e, hc⟩ := h i hi
  injection e with e
  injection e with e1 e2
  rw [e1, e2]
  exact hc j u hu
theorem Arr.head {w : World} {A : Option Addr} {C n : Nat} {F : Nat → List Value} (h : Arr w A C n F) {i : Nat} (hi : i < n) : ∃ b o, A = some ⟨b, o, none⟩ := by
  obtain ⟨b, o, e, _⟩ := h i hi
  exact ⟨b, o, e⟩


theorem getD_mem {α : Type} {l : List α} {k : Nat} (d : α) (h : k < l.length) : l.getD k d ∈ l := by
  rw [List.getD_eq_getElem?_getD, List.getElem?_eq_getElem h]
  exact List.getElem_mem h


/-- A kind as a law is given it: its lock, its cell, how many times. -/
abbrev KindA := Int × Int × Int
def dK : KindA := (0, 0, 0)
def kC (y : KindA) : List Value := [.int .i64 y.1, .int .i64 y.2.1, .int .i64 y.2.2]
def WfKind (y : KindA) : Prop := (-9223372036854775808 ≤ y.1 ∧ y.1 ≤ 9223372036854775807) ∧ (-9223372036854775808 ≤ y.2.1 ∧ y.2.1 ≤ 9223372036854775807) ∧ (-9223372036854775808 ≤ y.2.2 ∧ y.2.2 ≤ 9223372036854775807)
def KindsAt (w : World) (A : Option Addr) (l : List KindA) : Prop := Arr w A 3 l.length fun i => kC (l.getD i dK)
section
variable {H : Type} {en : TypeId × Value → H} {w : World} {base : Nat} {sp : Nat → Bool}

theorem one_u32 {n : Nat} {cs : List Value} {x : DataW H × List MemPlace} (h : DataW.trod en Tryd.prog w base sp true n 23 cs = some x) : ∃ z, cs = [.int .u32 z] ∧ (0 ≤ z ∧ z < 4294967296) := by
  obtain ⟨z, rfl, _, hw⟩ := DataW.trod_int Tryd.underlying23 h
  exact ⟨z, rfl, bounds32 hw⟩
theorem one_i64 {n : Nat} {cs : List Value} {x : DataW H × List MemPlace} (h : DataW.trod en Tryd.prog w base sp true n 3 cs = some x) : ∃ z, cs = [.int .i64 z] ∧ (-9223372036854775808 ≤ z ∧ z ≤ 9223372036854775807) := by
  obtain ⟨z, rfl, _, hw⟩ := DataW.trod_int Tryd.underlying3 h
  have := bounds_i64 hw
  exact ⟨z, rfl, by omega⟩
theorem arr_of {α : Type} {C n : Nat} {a : Addr} {V : α → List Value} {Wf : α → Prop} (d : α) (hC : 0 < C) (hV : ∀ x, (V x).length = C)
    (h : ∀ i, i < n → ∃ y, w.cells? base (a.add (i * C)) C = some (V y) ∧ Wf y) :
    ∃ l : List α, l.length = n ∧ (∀ y ∈ l, Wf y) ∧ Arr w (some a) C n fun i => V (l.getD i d) := by
  classical
  let f : Nat → α := fun i => if hi : i < n then Classical.choose (h i hi) else d
  have hf : ∀ i, i < n → w.cells? base (a.add (i * C)) C = some (V (f i)) ∧ Wf (f i) := fun i hi => by
    have := Classical.choose_spec (h i hi)
    simp only [f, dif_pos hi]
    exact this
  have hg : ∀ i, i < n → ((List.range n).map f).getD i d = f i := fun i hi => by simp [List.getD, hi]
  refine ⟨(List.range n).map f, by simp, fun y hy => ?_, fun i hi => ?_⟩
  · obtain ⟨i, hi, rfl⟩ := List.mem_map.1 hy
    exact (hf i (List.mem_range.1 hi)).2
  · obtain ⟨_, hl, hc⟩ := World.cells?_some (hf i hi).1
    obtain ⟨b, o, spot⟩ := a
    have hs : spot = none := by
      obtain ⟨_, hl0, hc0⟩ := World.cells?_some (hf 0 (by omega)).1
      have h0 := hc0 0 hC
      obtain ⟨u, hu⟩ : ∃ u, (V (f 0))[0]? = some u := ⟨_, List.getElem?_eq_getElem (by rw [hl0]; exact hC)⟩
      rw [hu] at h0
      simpa [Addr.add] using World.cell?_spot h0
    subst hs
    refine ⟨b, o, rfl, fun j u hu => ?_⟩
    simp only [hg i hi] at hu
    have hj : j < C := by
      rw [← hV (f i)]
      exact (List.getElem?_eq_some_iff.1 hu).1
    have := hc j hj
    rw [hu, Go.WideShapes.add_plain, Go.WideShapes.add_plain] at this
    exact this

/-- Within the reach. -/
def Sized (t : TypeId) (x : DataW H × List MemPlace) : Prop := ∀ k ∈ x.1.weights Tryd.prog t, k ≤ reachBytes
theorem weightsAll_mem {e : TypeId} {l : List (DataW H)} {d : DataW H} (h : d ∈ l) {k : Nat} (hk : k ∈ d.weights Tryd.prog e) : k ∈ DataW.weightsAll Tryd.prog e l := by
  induction l with
  | nil => cases h
  | cons a r ih =>
    simp only [DataW.weightsAll, List.mem_append]
    rcases List.mem_cons.1 h with rfl | h
    · exact .inl hk
    · exact .inr (ih h)

/-- A slice that is read is a list. -/
theorem row_of {α : Type} {t e C n : Nat} {V : α → List Value} {Wf : α → Prop} {cs : List Value} {x : DataW H × List MemPlace} (d : α) (ht : Tryd.prog.underlying t = some (.slice e)) (hC : Tryd.prog.cellsOf e = C) (h0 : 0 < C) (hV : ∀ x, (V x).length = C) (hb : Nat.blt 0 (Tryd.prog.bytesOf e) = true)
    (hel : ∀ (n : Nat) (cs : List Value) (x : DataW H × List MemPlace), DataW.trod en Tryd.prog w base sp true n e cs = some x → Sized e x → ∃ y, cs = V y ∧ Wf y)
    (h : DataW.trod en Tryd.prog w base sp true n t cs = some x) (hsz : Sized t x) :
    ∃ (A : Option Addr) (cap : Nat) (l : List α), cs = [.slice A l.length cap] ∧ (∀ y ∈ l, Wf y) ∧ (Arr w A C l.length fun i => V (l.getD i d)) ∧ (l.length ≤ cap ∧ l.length ≤ 140737488355328) ∧ cap ≤ maxLen ∧ (A = none → cap = 0) := by
  rcases open_slice ht h with ⟨rfl, _⟩ | ⟨a, len, cap, m, n', D, Pl, rfl, _, hl, hm, hmm, hx, hi⟩
  · exact ⟨none, 0, [], rfl, by simp, (fun i hi => by simp at hi), by simp, by simp, fun _ => rfl⟩
  · have hlm : len ≤ m := by rw [hmm]; split <;> omega
    rw [hC] at hi
    obtain ⟨l, h1, h2, h3⟩ := arr_of (w := w) (base := base) (n := len) (a := a) (V := V) (Wf := Wf) d h0 hV fun i hin => by
      obtain ⟨cs', hc, ht'⟩ := hi i (by omega)
      obtain ⟨y, rfl, hy⟩ := hel _ _ _ ht' fun k hk => hsz k (by
        rw [hx]
        simp only [DataW.weights, ht]
        exact List.mem_cons_of_mem _ (List.mem_append_left _ (weightsAll_mem (List.mem_map.2 ⟨i, List.mem_range.2 hin, rfl⟩) hk)))
      exact ⟨y, hc, hy⟩
    subst h1
    have hlen : l.length ≤ 140737488355328 := by
      have h1 : 1 ≤ Tryd.prog.bytesOf e := Nat.le_of_ble_eq_true hb
      have h2 := hsz (((List.range l.length).map D).length * Tryd.prog.bytesOf e + ((List.range (m - l.length)).map fun j => D (l.length + j)).length * Tryd.prog.bytesOf e) (by
        rw [hx]
        simp only [DataW.weights, ht, Nat.add_mul]
        exact List.mem_cons_self)
      have h3 := Nat.le_mul_of_pos_right l.length h1
      simp only [List.length_map, List.length_range] at h2
      unfold reachBytes at h2
      omega
    exact ⟨some a, cap, l, rfl, h2, h3, ⟨hl, hlen⟩, hm, fun e => by cases e⟩

theorem one_u8 {n : Nat} {cs : List Value} {x : DataW H × List MemPlace} (h : DataW.trod en Tryd.prog w base sp true n 5 cs = some x) : ∃ z, cs = [.int .u8 z] ∧ (0 ≤ z ∧ z < 256) := by
  obtain ⟨z, rfl, _, hw⟩ := DataW.trod_int Tryd.underlying5 h
  exact ⟨z, rfl, bounds8 hw⟩
theorem cells36 : Tryd.prog.cellsOf 36 = 3 := by kernel_rfl
theorem cells5 : Tryd.prog.cellsOf 5 = 1 := by kernel_rfl
set_option maxRecDepth 100000 in
theorem kind_of {n : Nat} {cs : List Value} {x : DataW H × List MemPlace} (h : DataW.trod en Tryd.prog w base sp true n 36 cs = some x) : ∃ y : KindA, cs = kC y ∧ WfKind y := by
  obtain ⟨xs, m, _, _, hlen, hx, hf⟩ := DataW.trod_struct Tryd.underlying36 h
  rw [cells36] at hlen
  have hx : xs.length = 3 := hx
  clear h
  match cs, hlen, xs, hx with
  | [a0, a1, a2], _, [y0, y1, y2], _ =>
    have h0 : DataW.trod en Tryd.prog w base sp true m 3 [a0] = some y0 := by simpa [cells3] using hf 0 _ rfl
    obtain ⟨z0, e0, b0⟩ := one_i64 h0
    have h1 : DataW.trod en Tryd.prog w base sp true m 3 [a1] = some y1 := by simpa [cells3] using hf 1 _ rfl
    obtain ⟨z1, e1, b1⟩ := one_i64 h1
    have h2 : DataW.trod en Tryd.prog w base sp true m 3 [a2] = some y2 := by simpa [cells3] using hf 2 _ rfl
    obtain ⟨z2, e2, b2⟩ := one_i64 h2
    injection e0 with e0
    subst e0
    injection e1 with e1
    subst e1
    injection e2 with e2
    subst e2
    exact ⟨(z0, z1, z2), rfl, b0, b1, b2⟩
theorem kinds_of {n : Nat} {cs : List Value} {x : DataW H × List MemPlace} (h : DataW.trod en Tryd.prog w base sp true n 22 cs = some x) (hs : Sized 22 x) :
    ∃ (A : Option Addr) (cap : Nat) (l : List KindA), cs = [.slice A l.length cap] ∧ (∀ y ∈ l, WfKind y) ∧ KindsAt w A l ∧ (l.length ≤ cap ∧ l.length ≤ 140737488355328) ∧ cap ≤ maxLen ∧ (A = none → cap = 0) :=
  row_of dK Tryd.underlying22 cells36 (by omega) (fun _ => rfl) (by kernel_rfl) (fun _ _ _ h _ => kind_of h) h hs
theorem ints_of {n : Nat} {cs : List Value} {x : DataW H × List MemPlace} (h : DataW.trod en Tryd.prog w base sp true n 25 cs = some x) (hs : Sized 25 x) :
    ∃ (A : Option Addr) (cap : Nat) (l : List Int), cs = [.slice A l.length cap] ∧ (∀ y ∈ l, -9223372036854775808 ≤ y ∧ y ≤ 9223372036854775807) ∧ (Arr w A 1 l.length fun i => [.int .i64 (l.getD i 0)]) ∧ (l.length ≤ cap ∧ l.length ≤ 140737488355328) ∧ cap ≤ maxLen ∧ (A = none → cap = 0) :=
  row_of (V := fun x => [.int .i64 x]) 0 Tryd.underlying25 cells3 (by omega) (fun _ => rfl) (by kernel_rfl) (fun _ _ _ h _ => one_i64 h) h hs
theorem argN_of {k : IntKind} {w : World} {A : Option Addr} {l : List Int} (h : Arr w A 1 l.length fun i => [.int k (l.getD i 0)]) : ArgN k w.heap.size w A l.length fun i => l.getD i 0 := fun i hi => by
  obtain ⟨b, o, e, hc⟩ := h i hi
  have h0 := hc 0 _ rfl
  have hb := cell_lt h0
  exact ⟨b, o, e, hb, by simpa using h0⟩
end
section
variable {H : Type} {en : TypeId × Value → H} {w : World} {base b0 : Nat} {sp : Nat → Bool} {r : Reach} {v : Value} {d : DataW H} {p : List MemPlace}
set_option maxRecDepth 100000 in
theorem kind_arg (hv : Value.okWide Tryd.prog w r b0 36 v) (h : DataW.Trod en Tryd.prog w base sp true 36 v d p) : ∃ y : KindA, v = .agg (kC y).toArray ∧ WfKind y := by
  obtain ⟨cs, rfl, _⟩ := okWide_struct Tryd.underlying36 hv
  obtain ⟨fuel, hf⟩ := h
  obtain ⟨y, hy, hw⟩ := kind_of hf
  refine ⟨y, ?_, hw⟩
  have : cs.toList = kC y := by simpa [Value.cells] using hy
  rw [← Array.toArray_toList (xs := cs), this]
theorem kinds_arg (hv : Value.okWide Tryd.prog w r b0 22 v) (h : DataW.Trod en Tryd.prog w base sp true 22 v d p) (hs : ∀ k ∈ d.weights Tryd.prog 22, k ≤ reachBytes) : ∃ (A : Option Addr) (cap : Nat) (l : List KindA), v = .slice A l.length cap ∧ (∀ y ∈ l, WfKind y) ∧ KindsAt w A l ∧ l.length ≤ 140737488355328 := by
  obtain ⟨a, len, cap, rfl⟩ := okWide_slice Tryd.underlying22 hv
  obtain ⟨fuel, hf⟩ := h
  obtain ⟨A, cap', l, e, h1, h2, h3, _⟩ := kinds_of hf hs
  simp [Value.cells] at e
  obtain ⟨rfl, rfl, rfl⟩ := e
  exact ⟨_, _, l, rfl, h1, h2, h3.2⟩
theorem ints_arg (hv : Value.okWide Tryd.prog w r b0 25 v) (h : DataW.Trod en Tryd.prog w base sp true 25 v d p) (hs : ∀ k ∈ d.weights Tryd.prog 25, k ≤ reachBytes) : ∃ (A : Option Addr) (cap : Nat) (l : List Int), v = .slice A l.length cap ∧ (∀ y ∈ l, -9223372036854775808 ≤ y ∧ y ≤ 9223372036854775807) ∧ ArgN .i64 w.heap.size w A l.length (fun i => l.getD i 0) ∧ l.length ≤ 140737488355328 := by
  obtain ⟨a, len, cap, rfl⟩ := okWide_slice Tryd.underlying25 hv
  obtain ⟨fuel, hf⟩ := h
  obtain ⟨A, cap', l, e, h1, h2, h3, _⟩ := ints_of hf hs
  simp [Value.cells] at e
  obtain ⟨rfl, rfl, rfl⟩ := e
  exact ⟨_, _, l, rfl, h1, argN_of h2, h3.2⟩
theorem cells24 : Tryd.prog.cellsOf 24 = 2 := by kernel_rfl
theorem okWide_two (hv : Value.okWide Tryd.prog w r b0 24 v) : ∃ cs, v = .agg cs := by
  simp only [Value.okWide, Tryd.underlying24] at hv
  obtain ⟨cs, h1, _⟩ := hv
  exact ⟨cs, h1⟩
set_option maxRecDepth 100000 in
theorem two_arg (hv : Value.okWide Tryd.prog w r b0 24 v) (h : DataW.Trod en Tryd.prog w base sp true 24 v d p) : ∃ a b : Int, v = .agg #[.int .u32 a, .int .u32 b] ∧ (0 ≤ a ∧ a < 4294967296) ∧ (0 ≤ b ∧ b < 4294967296) := by
  obtain ⟨cs, rfl⟩ := okWide_two hv
  obtain ⟨fuel, hf⟩ := h
  obtain ⟨xs, m, _, _, hlen, hx, hf⟩ := DataW.trod_array Tryd.underlying24 hf
  rw [cells24] at hlen
  simp only [Value.cells] at hlen hf
  obtain ⟨l⟩ := cs
  simp only at hlen hf
  match l, hlen, xs, hx with
  | [a0, a1], _, [y0, y1], _ =>
    have h0 : DataW.trod en Tryd.prog w base sp true m 23 [a0] = some y0 := by simpa [cells23] using hf 0 (by omega)
    have h1 : DataW.trod en Tryd.prog w base sp true m 23 [a1] = some y1 := by simpa [cells23] using hf 1 (by omega)
    obtain ⟨z0, e0, b0⟩ := one_u32 h0
    obtain ⟨z1, e1, b1⟩ := one_u32 h1
    injection e0 with e0
    injection e1 with e1
    subst e0 e1
    exact ⟨z0, z1, rfl, b0, b1⟩
end
theorem mem_rng {l : List Int} {P : Int → Prop} (h : ∀ y ∈ l, P y) : ∀ i, i < l.length → P (l.getD i 0) := fun _ hi => h _ (getD_mem 0 hi)
end Go.Proofs.YtcjhbmkpfclmfaaDoor
