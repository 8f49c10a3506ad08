/-
  Arguments opened: plays, places, lists of messages, pairs of numbers.
-/
import Derived.Test.YtnmobalgghggnaaDoorLift
import Derived.Test.YtnmobalgghggnaaDoorLaw
import Derived.Deep.Slices
import Derived.Deep.Fields
import Derived.SizedLaws
namespace Go.Proofs.YtnmobalgghggnaaDoor
set_option maxRecDepth 100000
set_option linter.all false
open Go.ChangeShapes Go.WideShapes Go.ChangeAt Go.RowKit Go.Deep

/-- From address A on n elements of C cells lie, the i-th of which holds F i. -/
def Arr (w : World) (A : Option Addr) (C n : Nat) (F : Nat → List Value) : Prop :=
  ∀ i, i < n → ∃ b o, A = some ⟨b, o, none⟩ ∧ ∀ j u, (F i)[j]? = some u → w.cell? ⟨b, o + i * C + j, none⟩ = some u
section
variable {H : Type} {en : TypeId × Value → H} {w : World} {base : Nat} {sp : Nat → Bool}

theorem one_u32 {n : Nat} {cs : List Value} {x : DataW H × List MemPlace} (h : DataW.trod en Tryd.prog w base sp true n 40 cs = some x) : ∃ z, cs = [.int .u32 z] ∧ (0 ≤ z ∧ z < 4294967296) := by
  obtain ⟨z, rfl, _, hw⟩ := DataW.trod_int Tryd.underlying40 h
  exact ⟨z, rfl, bounds32 hw⟩
theorem one_i64 {n : Nat} {cs : List Value} {x : DataW H × List MemPlace} (h : DataW.trod en Tryd.prog w base sp true n 3 cs = some x) : ∃ z, cs = [.int .i64 z] ∧ (-9223372036854775808 ≤ z ∧ z ≤ 9223372036854775807) := by
  obtain ⟨z, rfl, _, hw⟩ := DataW.trod_int Tryd.underlying3 h
  have := bounds_i64 hw
  exact ⟨z, rfl, by omega⟩
theorem one_u8 {n : Nat} {cs : List Value} {x : DataW H × List MemPlace} (h : DataW.trod en Tryd.prog w base sp true n 5 cs = some x) : ∃ z, cs = [.int .u8 z] ∧ (0 ≤ z ∧ z < 256) := by
  obtain ⟨z, rfl, _, hw⟩ := DataW.trod_int Tryd.underlying5 h
  exact ⟨z, rfl, bounds8 hw⟩
theorem one_str {n : Nat} {cs : List Value} {x : DataW H × List MemPlace} (h : DataW.trod en Tryd.prog w base sp true n 9 cs = some x) : ∃ s : ByteArray, cs = [.string s] ∧ s.size ≤ 9223372036854775807 := by
  obtain ⟨s, rfl, _, hs⟩ := DataW.trod_string Tryd.underlying9 h
  exact ⟨s, rfl, hs⟩
theorem arr_of {α : Type} {C n : Nat} {a : Addr} {V : α → List Value} {Wf : α → Prop} (d : α) (hC : 0 < C) (hV : ∀ x, (V x).length = C)
    (h : ∀ i, i < n → ∃ y, w.cells? base (a.add (i * C)) C = some (V y) ∧ Wf y) :
    ∃ l : List α, l.length = n ∧ (∀ y ∈ l, Wf y) ∧ Arr w (some a) C n fun i => V (l.getD i d) := by
  classical
  let f : Nat → α := fun i => if hi : i < n then Classical.choose (h i hi) else d
  have hf : ∀ i, i < n → w.cells? base (a.add (i * C)) C = some (V (f i)) ∧ Wf (f i) := fun i hi => by
    have := Classical.choose_spec (h i hi)
    simp only [f, dif_pos hi]
    exact this
  have hg : ∀ i, i < n → ((List.range n).map f).getD i d = f i := fun i hi => by simp [List.getD, hi]
  refine ⟨(List.range n).map f, by simp, fun y hy => ?_, fun i hi => ?_⟩
  · obtain ⟨i, hi, rfl⟩ := List.mem_map.1 hy
    exact (hf i (List.mem_range.1 hi)).2
  · obtain ⟨_, hl, hc⟩ := World.cells?_some (hf i hi).1
    obtain ⟨b, o, spot⟩ := a
    have hs : spot = none := by
      obtain ⟨_, hl0, hc0⟩ := World.cells?_some (hf 0 (by omega)).1
      have h0 := hc0 0 hC
      obtain ⟨u, hu⟩ : ∃ u, (V (f 0))[0]? = some u := ⟨_, List.getElem?_eq_getElem (by rw [hl0]; exact hC)⟩
      rw [hu] at h0
      simpa [Addr.add] using World.cell?_spot h0
    subst hs
    refine ⟨b, o, rfl, fun j u hu => ?_⟩
    simp only [hg i hi] at hu
    have hj : j < C := by
      rw [← hV (f i)]
      exact (List.getElem?_eq_some_iff.1 hu).1
    have := hc j hj
    rw [hu, Go.WideShapes.add_plain, Go.WideShapes.add_plain] at this
    exact this
/-- Within the reach. -/
def Sized (t : TypeId) (x : DataW H × List MemPlace) : Prop := ∀ k ∈ x.1.weights Tryd.prog t, k ≤ reachBytes
/-- A slice that is read is a list. -/
theorem row_of {α : Type} {t e C n : Nat} {V : α → List Value} {Wf : α → Prop} {cs : List Value} {x : DataW H × List MemPlace} (d : α) (ht : Tryd.prog.underlying t = some (.slice e)) (hC : Tryd.prog.cellsOf e = C) (h0 : 0 < C) (hV : ∀ x, (V x).length = C) (hb : Nat.blt 0 (Tryd.prog.bytesOf e) = true)
    (hel : ∀ (n : Nat) (cs : List Value) (x : DataW H × List MemPlace), DataW.trod en Tryd.prog w base sp true n e cs = some x → ∃ y, cs = V y ∧ Wf y)
    (h : DataW.trod en Tryd.prog w base sp true n t cs = some x) (hsz : Sized t x) :
    ∃ (A : Option Addr) (cap : Nat) (l : List α), cs = [.slice A l.length cap] ∧ (∀ y ∈ l, Wf y) ∧ (Arr w A C l.length fun i => V (l.getD i d)) ∧ l.length ≤ 140737488355328 := by
  rcases open_slice ht h with ⟨rfl, _⟩ | ⟨a, len, cap, m, n', D, Pl, rfl, _, hl, hm, hmm, hx, hi⟩
  · exact ⟨none, 0, [], rfl, by simp, (fun i hi => by simp at hi), by simp⟩
  · have hlm : len ≤ m := by rw [hmm]; split <;> omega
    rw [hC] at hi
    obtain ⟨l, h1, h2, h3⟩ := arr_of (w := w) (base := base) (n := len) (a := a) (V := V) (Wf := Wf) d h0 hV fun i hin => by
      obtain ⟨cs', hc, ht'⟩ := hi i (by omega)
      obtain ⟨y, rfl, hy⟩ := hel _ _ _ ht'
      exact ⟨y, hc, hy⟩
    subst h1
    have hlen : l.length ≤ 140737488355328 := by
      have h1 : 1 ≤ Tryd.prog.bytesOf e := Nat.le_of_ble_eq_true hb
      have h2 := hsz (((List.range l.length).map D).length * Tryd.prog.bytesOf e + ((List.range (m - l.length)).map fun j => D (l.length + j)).length * Tryd.prog.bytesOf e) (by
        rw [hx]
        simp only [DataW.weights, ht, Nat.add_mul]
        exact List.mem_cons_self)
      have h3 := Nat.le_mul_of_pos_right l.length h1
      simp only [List.length_map, List.length_range] at h2
      unfold reachBytes at h2
      omega
    exact ⟨some a, cap, l, rfl, h2, h3, hlen⟩
theorem cells5 : Tryd.prog.cellsOf 5 = 1 := by kernel_rfl
theorem cellsS : Tryd.prog.cellsOf 9 = 1 := by kernel_rfl
theorem cells24 : Tryd.prog.cellsOf 24 = 1 := by kernel_rfl
theorem cells41 : Tryd.prog.cellsOf 41 = 1 := by kernel_rfl
theorem cells43 : Tryd.prog.cellsOf 43 = 4 := by kernel_rfl
theorem cells23 : Tryd.prog.cellsOf 23 = 4 := by kernel_rfl
theorem cells64 : Tryd.prog.cellsOf 64 = 2 := by kernel_rfl
theorem argN_of {k : IntKind} {w : World} {A : Option Addr} {l : List Int} (h : Arr w A 1 l.length fun i => [.int k (l.getD i 0)]) : ArgN k w.heap.size w A l.length fun i => l.getD i 0 := fun i hi => by
  obtain ⟨b, o, e, hc⟩ := h i hi
  have h0 := hc 0 _ rfl
  have hb := cell_lt h0
  exact ⟨b, o, e, hb, by simpa using h0⟩
theorem strs_of {w : World} {A : Option Addr} {l : List ByteArray} (h : Arr w A 1 l.length fun i => [.string (l.getD i ByteArray.empty)]) : Strs w.heap.size w A l := fun i hi => by
  obtain ⟨b, o, e, hc⟩ := h i hi
  have h0 := hc 0 _ rfl
  have hb := cell_lt h0
  refine ⟨b, o, e, hb, ?_⟩
  rw [List.getD_eq_getElem?_getD, List.getElem?_eq_getElem hi, Option.getD_some] at h0
  simpa using h0
/-- What is known of a list of messages that is read. -/
def MsgsP (w : World) (A : Option Addr) (l : List ByteArray) : Prop := Strs w.heap.size w A l ∧ (∀ i, i < l.length → (l.getD i ByteArray.empty).size ≤ 9223372036854775807) ∧ l.length ≤ 9223372036854775807
theorem msgs_of {n : Nat} {cs : List Value} {x : DataW H × List MemPlace} (h : DataW.trod en Tryd.prog w base sp true n 24 cs = some x) (hs : Sized 24 x) : ∃ (A : Option Addr) (cap : Nat) (l : List ByteArray), cs = [.slice A l.length cap] ∧ MsgsP w A l := by
  obtain ⟨A, cap, l, h1, h2, h3, h4⟩ := row_of (V := fun s => [.string s]) (Wf := fun s => s.size ≤ 9223372036854775807) ByteArray.empty Tryd.underlying24 cellsS (by omega) (fun _ => rfl) (by kernel_rfl) (fun _ _ _ h => one_str h) h hs
  refine ⟨A, cap, l, h1, strs_of h3, fun i hi => h2 _ ?_, by omega⟩
  rw [List.getD_eq_getElem?_getD, List.getElem?_eq_getElem hi]
  exact List.getElem_mem hi
theorem bytes_of {n : Nat} {cs : List Value} {x : DataW H × List MemPlace} (h : DataW.trod en Tryd.prog w base sp true n 41 cs = some x) (hs : Sized 41 x) : ∃ (A : Option Addr) (cap : Nat) (l : List Int), cs = [.slice A l.length cap] ∧ ArgN .u8 w.heap.size w A l.length (fun i => l.getD i 0) ∧ l.length ≤ 9223372036854775807 := by
  obtain ⟨A, cap, l, h1, _, h3, h4⟩ := row_of (V := fun x => [.int .u8 x]) (Wf := fun x => 0 ≤ x ∧ x < 256) 0 Tryd.underlying41 cells5 (by omega) (fun _ => rfl) (by kernel_rfl) (fun _ _ _ h => one_u8 h) h hs
  exact ⟨A, cap, l, h1, argN_of h3, by omega⟩
/-- A play that is read. -/
theorem play_of {n : Nat} {cs : List Value} {x : DataW H × List MemPlace} (h : DataW.trod en Tryd.prog w base sp true n 43 cs = some x) (hs : Sized 43 x) :
    ∃ (hd tl : Int) (A1 : Option Addr) (c1 : Nat) (L : List ByteArray) (A2 : Option Addr) (c2 : Nat) (l : List Int), cs = playC hd tl A1 L.length c1 A2 l.length c2 ∧ (0 ≤ hd ∧ hd < 4294967296) ∧ (0 ≤ tl ∧ tl < 4294967296) ∧ MsgsP w A1 L ∧ ArgN .u8 w.heap.size w A2 l.length (fun i => l.getD i 0) ∧ l.length ≤ 9223372036854775807 := by
  obtain ⟨xs, m, _, hxx, hlen, hx, hf⟩ := DataW.trod_struct Tryd.underlying43 h
  rw [cells43] at hlen
  have hx : xs.length = 4 := hx
  clear h
  match cs, hlen, xs, hx with
  | [a0, a1, a2, a3], _, [y0, y1, y2, y3], _ =>
    have h0 : DataW.trod en Tryd.prog w base sp true m 40 [a0] = some y0 := by simpa [cells40] using hf 0 _ rfl
    have h1 : DataW.trod en Tryd.prog w base sp true m 40 [a1] = some y1 := by simpa [cells40] using hf 1 _ rfl
    have h2 : DataW.trod en Tryd.prog w base sp true m 24 [a2] = some y2 := by simpa [cells24] using hf 2 _ rfl
    have h3 : DataW.trod en Tryd.prog w base sp true m 41 [a3] = some y3 := by simpa [cells41] using hf 3 _ rfl
    obtain ⟨z0, e0, b0⟩ := one_u32 h0
    obtain ⟨z1, e1, b1⟩ := one_u32 h1
    have S := fun k hk => hs k (by rw [hxx]; simp only [DataW.weights, Tryd.underlying43, List.map_cons, List.map_nil, DataW.weightsEach, List.mem_append]; exact hk)
    obtain ⟨A1, c1, l1, e2, p1⟩ := msgs_of h2 fun k hk => S k (.inr (.inr (.inl hk)))
    obtain ⟨A2, c2, l2, e3, p2, p3⟩ := bytes_of h3 fun k hk => S k (.inr (.inr (.inr (.inl hk))))
    injection e0 with e0
    injection e1 with e1
    injection e2 with e2
    injection e3 with e3
    subst e0 e1 e2 e3
    exact ⟨z0, z1, A1, c1, l1, A2, c2, l2, rfl, b0, b1, p1, p2, p3⟩
end
section
variable {H : Type} {en : TypeId × Value → H} {w : World} {base b0 : Nat} {sp : Nat → Bool} {r : Reach} {v : Value} {d : DataW H} {p : List MemPlace}
theorem play_arg (hv : Value.okWide Tryd.prog w r b0 43 v) (h : DataW.Trod en Tryd.prog w base sp true 43 v d p) (hs : ∀ k ∈ d.weights Tryd.prog 43, k ≤ reachBytes) :
    ∃ (hd tl : Int) (A1 : Option Addr) (c1 : Nat) (L : List ByteArray) (A2 : Option Addr) (c2 : Nat) (l : List Int), v = .agg (playC hd tl A1 L.length c1 A2 l.length c2).toArray ∧ (0 ≤ hd ∧ hd < 4294967296) ∧ (0 ≤ tl ∧ tl < 4294967296) ∧ MsgsP w A1 L ∧ ArgN .u8 w.heap.size w A2 l.length (fun i => l.getD i 0) ∧ l.length ≤ 9223372036854775807 := by
  obtain ⟨cs, rfl, _⟩ := okWide_struct Tryd.underlying43 hv
  obtain ⟨fuel, hf⟩ := h
  obtain ⟨hd, tl, A1, c1, L, A2, c2, l, e, h1⟩ := play_of hf hs
  refine ⟨hd, tl, A1, c1, L, A2, c2, l, ?_, h1⟩
  have : cs.toList = playC hd tl A1 L.length c1 A2 l.length c2 := by simpa [Value.cells] using e
  rw [← this]
theorem msgs_arg (hv : Value.okWide Tryd.prog w r b0 24 v) (h : DataW.Trod en Tryd.prog w base sp true 24 v d p) (hs : ∀ k ∈ d.weights Tryd.prog 24, k ≤ reachBytes) : ∃ (A : Option Addr) (cap : Nat) (l : List ByteArray), v = .slice A l.length cap ∧ MsgsP w A l := by
  obtain ⟨a, len, cap, rfl⟩ := okWide_slice Tryd.underlying24 hv
  obtain ⟨fuel, hf⟩ := h
  obtain ⟨A, cap', l, e, h1⟩ := msgs_of hf hs
  simp [Value.cells] at e
  obtain ⟨rfl, rfl, rfl⟩ := e
  exact ⟨_, _, l, rfl, h1⟩
theorem ring_arg (hv : Value.okWide Tryd.prog w r b0 23 v) (h : DataW.Trod en Tryd.prog w base sp true 23 v d p) : ∃ a n z t : Int, v = .agg #[.int .i64 a, .int .i64 n, .int .i64 z, .int .i64 t] ∧ (-9223372036854775808 ≤ a ∧ a ≤ 9223372036854775807) ∧ (-9223372036854775808 ≤ n ∧ n ≤ 9223372036854775807) ∧ (-9223372036854775808 ≤ z ∧ z ≤ 9223372036854775807) ∧ (-9223372036854775808 ≤ t ∧ t ≤ 9223372036854775807) := by
  obtain ⟨cs, rfl, _⟩ := okWide_struct Tryd.underlying23 hv
  obtain ⟨fuel, hf⟩ := h
  obtain ⟨xs, m, _, _, hlen, hx, hf⟩ := DataW.trod_struct Tryd.underlying23 hf
  rw [cells23] at hlen
  have hx : xs.length = 4 := hx
  simp only [Value.cells] at hlen hf
  obtain ⟨l⟩ := cs
  simp only at hlen hf
  match l, hlen, xs, hx with
  | [a0, a1, a2, a3], _, [y0, y1, y2, y3], _ =>
    have h0 : DataW.trod en Tryd.prog w base sp true m 3 [a0] = some y0 := by simpa [cells3] using hf 0 _ rfl
    have h1 : DataW.trod en Tryd.prog w base sp true m 3 [a1] = some y1 := by simpa [cells3] using hf 1 _ rfl
    have h2 : DataW.trod en Tryd.prog w base sp true m 3 [a2] = some y2 := by simpa [cells3] using hf 2 _ rfl
    have h3 : DataW.trod en Tryd.prog w base sp true m 3 [a3] = some y3 := by simpa [cells3] using hf 3 _ rfl
    obtain ⟨z0, e0, b0⟩ := one_i64 h0
    obtain ⟨z1, e1, b1⟩ := one_i64 h1
    obtain ⟨z2, e2, b2⟩ := one_i64 h2
    obtain ⟨z3, e3, b3⟩ := one_i64 h3
    injection e0 with e0
    injection e1 with e1
    injection e2 with e2
    injection e3 with e3
    subst e0 e1 e2 e3
    exact ⟨z0, z1, z2, z3, rfl, b0, b1, b2, b3⟩
theorem okWide_two (hv : Value.okWide Tryd.prog w r b0 64 v) : ∃ cs, v = .agg cs := by
  simp only [Value.okWide, Tryd.underlying64] at hv
  obtain ⟨cs, h1, _⟩ := hv
  exact ⟨cs, h1⟩
theorem two_arg (hv : Value.okWide Tryd.prog w r b0 64 v) (h : DataW.Trod en Tryd.prog w base sp true 64 v d p) : ∃ a b : Int, v = .agg #[.int .u8 a, .int .u8 b] ∧ (0 ≤ a ∧ a < 256) ∧ (0 ≤ b ∧ b < 256) := by
  obtain ⟨cs, rfl⟩ := okWide_two hv
  obtain ⟨fuel, hf⟩ := h
  obtain ⟨xs, m, _, _, hlen, hx, hf⟩ := DataW.trod_array Tryd.underlying64 hf
  rw [cells64] at hlen
  simp only [Value.cells] at hlen hf
  obtain ⟨l⟩ := cs
  simp only at hlen hf
  match l, hlen, xs, hx with
  | [a0, a1], _, [y0, y1], _ =>
    have h0 : DataW.trod en Tryd.prog w base sp true m 5 [a0] = some y0 := by simpa [cells5] using hf 0 (by omega)
    have h1 : DataW.trod en Tryd.prog w base sp true m 5 [a1] = some y1 := by simpa [cells5] using hf 1 (by omega)
    obtain ⟨z0, e0, b0⟩ := one_u8 h0
    obtain ⟨z1, e1, b1⟩ := one_u8 h1
    injection e0 with e0
    injection e1 with e1
    subst e0 e1
    exact ⟨z0, z1, rfl, b0, b1⟩
end
end Go.Proofs.YtnmobalgghggnaaDoor
