/-
  Arguments opened: numbers in a list, a place, lists of versions and how many words they have in all.
-/
import Derived.Test.YtoaaeamogpdcgaaDoorLift
import Derived.Test.YtoaaeamogpdcgaaDoorCtor
import Derived.Deep.Slices
import Derived.Deep.Fields
import Derived.SizedLaws
namespace Go.Proofs.YtoaaeamogpdcgaaDoor
open Go.ChangeShapes Go.WideShapes Go.ChangeAt Go.RowKit Go.Deep

/-- From address A on n elements of C cells lie, the i-th of which holds F i. -/
def Arr (w : World) (A : Option Addr) (C n : Nat) (F : Nat → List Value) : Prop :=
  ∀ i, i < n → ∃ b o, A = some ⟨b, o, none⟩ ∧ ∀ j u, (F i)[j]? = some u → w.cell? ⟨b, o + i * C + j, none⟩ = some u
theorem Arr.keep {w w' : World} {A : Option Addr} {C n : Nat} {F : Nat → List Value} (h : Arr w A C n F) (hb : Below w.heap.size w w') : Arr w' A C n F := fun i hi => by
  obtain ⟨b, o, e, hc⟩ := h i hi
  exact ⟨b, o, e, fun j u hu => by rw [hb.cell (cell_lt (hc j u hu))]; exact hc j u hu⟩
theorem Arr.at {w : World} {b o C n : Nat} {F : Nat → List Value} (h : Arr w (some ⟨b, o, none⟩) C n F) {i j : Nat} {u : Value} (hi : i < n) (hu : (F i)[j]? = some u) : w.cell? ⟨b, o + i * C + j, none⟩ = some u := by
  obtain ⟨b', o', e, hc⟩ := h i hi
  injection e with e
  injection e with e1 e2
  rw [e1, e2]
  exact hc j u hu
theorem Arr.head {w : World} {A : Option Addr} {C n : Nat} {F : Nat → List Value} (h : Arr w A C n F) {i : Nat} (hi : i < n) : ∃ b o, A = some ⟨b, o, none⟩ := by
  obtain ⟨b, o, e, _⟩ := h i hi
  exact ⟨b, o, e⟩


theorem getD_mem {α : Type} {l : List α} {k : Nat} (d : α) (h : k < l.length) : l.getD k d ∈ l := by
  rw [List.getD_eq_getElem?_getD, List.getElem?_eq_getElem h]
  exact List.getElem_mem h


section
variable {H : Type} {en : TypeId × Value → H} {w : World} {base : Nat} {sp : Nat → Bool}

theorem one_u32 {n : Nat} {cs : List Value} {x : DataW H × List MemPlace} (h : DataW.trod en Tryd.prog w base sp true n 22 cs = some x) : ∃ z, cs = [.int .u32 z] ∧ (0 ≤ z ∧ z < 4294967296) := by
  obtain ⟨z, rfl, _, hw⟩ := DataW.trod_int Tryd.underlying22 h
  exact ⟨z, rfl, bounds32 hw⟩
theorem one_i64 {n : Nat} {cs : List Value} {x : DataW H × List MemPlace} (h : DataW.trod en Tryd.prog w base sp true n 3 cs = some x) : ∃ z, cs = [.int .i64 z] ∧ (-9223372036854775808 ≤ z ∧ z ≤ 9223372036854775807) := by
  obtain ⟨z, rfl, _, hw⟩ := DataW.trod_int Tryd.underlying3 h
  have := bounds_i64 hw
  exact ⟨z, rfl, by omega⟩
/-- Within the reach. -/
def Sized (t : TypeId) (x : DataW H × List MemPlace) : Prop := ∀ k ∈ x.1.weights Tryd.prog t, k ≤ reachBytes
theorem weightsAll_mem {e : TypeId} {l : List (DataW H)} {d : DataW H} (h : d ∈ l) {k : Nat} (hk : k ∈ d.weights Tryd.prog e) : k ∈ DataW.weightsAll Tryd.prog e l := by
  induction l with
  | nil => cases h
  | cons a r ih =>
    simp only [DataW.weightsAll, List.mem_append]
    rcases List.mem_cons.1 h with rfl | h
    · exact .inl hk
    · exact .inr (ih h)

/-- A slice that is read is a list; what is known of its elements' data. -/
theorem row_of {α : Type} {t e C n : Nat} {V : α → List Value} {Wf : α → DataW H → Prop} {cs : List Value} {x : DataW H × List MemPlace} (d : α) (ht : Tryd.prog.underlying t = some (.slice e)) (hC : Tryd.prog.cellsOf e = C) (h0 : 0 < C) (hV : ∀ x, (V x).length = C) (hb : Nat.blt 0 (Tryd.prog.bytesOf e) = true)
    (hel : ∀ (n : Nat) (cs : List Value) (x : DataW H × List MemPlace), DataW.trod en Tryd.prog w base sp true n e cs = some x → Sized e x → ∃ y, cs = V y ∧ Wf y x.1)
    (h : DataW.trod en Tryd.prog w base sp true n t cs = some x) (hsz : Sized t x) :
    ∃ (A : Option Addr) (cap : Nat) (l : List α) (D : Nat → DataW H) (spare : List (DataW H)), cs = [.slice A l.length cap] ∧ (∀ i, i < l.length → Wf (l.getD i d) (D i)) ∧ (Arr w A C l.length fun i => V (l.getD i d)) ∧ l.length ≤ 140737488355328 ∧ (l.length = 0 ∨ x.1 = .slice ((List.range l.length).map D) spare) := by
  classical
  rcases open_slice ht h with ⟨rfl, _⟩ | ⟨a, len, cap, m, n', D, Pl, rfl, _, hl, hm, hmm, hx, hi⟩
  · exact ⟨none, 0, [], fun _ => .nil, [], rfl, fun i hi => by simp at hi, (fun i hi => by simp at hi), by simp, .inl rfl⟩
  · have hlm : len ≤ m := by rw [hmm]; split <;> omega
    rw [hC] at hi
    have hall : ∀ i, i < len → ∃ y, w.cells? base (a.add (i * C)) C = some (V y) ∧ Wf y (D i) := fun i hin => by
      obtain ⟨cs', hc, ht'⟩ := hi i (by omega)
      obtain ⟨y, rfl, hy⟩ := hel _ _ _ ht' fun k hk => hsz k (by
        rw [hx]
        simp only [DataW.weights, ht]
        exact List.mem_cons_of_mem _ (List.mem_append_left _ (weightsAll_mem (List.mem_map.2 ⟨i, List.mem_range.2 hin, rfl⟩) hk)))
      exact ⟨y, hc, hy⟩
    let f : Nat → α := fun i => if hi : i < len then Classical.choose (hall i hi) else d
    have hf : ∀ i, i < len → w.cells? base (a.add (i * C)) C = some (V (f i)) ∧ Wf (f i) (D i) := fun i hi => by
      have := Classical.choose_spec (hall i hi)
      simp only [f, dif_pos hi]
      exact this
    have hg : ∀ i, i < len → ((List.range len).map f).getD i d = f i := fun i hi => by simp [List.getD, hi]
    have hll : ((List.range len).map f).length = len := by simp
    refine ⟨some a, cap, (List.range len).map f, D, (List.range (m - len)).map fun j => D (len + j), by rw [hll], fun i hi => ?_, fun i hj0 => ?_, ?_, .inr ?_⟩
    · rw [hll] at hi
      rw [hg i hi]; exact (hf i hi).2
    · rw [hll] at hj0
      obtain ⟨_, hl, hc⟩ := World.cells?_some (hf i hj0).1
      obtain ⟨b, o, spot⟩ := a
      have hs : spot = none := by
        obtain ⟨_, hl0, hc0⟩ := World.cells?_some (hf 0 (by omega)).1
        have h0' := hc0 0 h0
        obtain ⟨u, hu⟩ : ∃ u, (V (f 0))[0]? = some u := ⟨_, List.getElem?_eq_getElem (by rw [hl0]; exact h0)⟩
        rw [hu] at h0'
        simpa [Addr.add] using World.cell?_spot h0'
      subst hs
      refine ⟨b, o, rfl, fun j u hu => ?_⟩
      have hu : (V (((List.range len).map f).getD i d))[j]? = some u := hu
      rw [hg i hj0] at hu
      have hj : j < C := by
        rw [← hV (f i)]
        exact (List.getElem?_eq_some_iff.1 hu).1
      have := hc j hj
      rw [hu, Go.WideShapes.add_plain, Go.WideShapes.add_plain] at this
      exact this
    · rw [hll]
      have h1 : 1 ≤ Tryd.prog.bytesOf e := Nat.le_of_ble_eq_true hb
      have h2 := hsz (((List.range len).map D).length * Tryd.prog.bytesOf e + ((List.range (m - len)).map fun j => D (len + j)).length * Tryd.prog.bytesOf e) (by
        rw [hx]
        simp only [DataW.weights, ht, Nat.add_mul]
        exact List.mem_cons_self)
      have h3 := Nat.le_mul_of_pos_right len h1
      simp only [List.length_map, List.length_range] at h2
      unfold reachBytes at h2
      omega
    · rw [hll, hx]

theorem one_u8 {n : Nat} {cs : List Value} {x : DataW H × List MemPlace} (h : DataW.trod en Tryd.prog w base sp true n 5 cs = some x) : ∃ z, cs = [.int .u8 z] ∧ (0 ≤ z ∧ z < 256) := by
  obtain ⟨z, rfl, _, hw⟩ := DataW.trod_int Tryd.underlying5 h
  exact ⟨z, rfl, bounds8 hw⟩
theorem cells5 : Tryd.prog.cellsOf 5 = 1 := by kernel_rfl
theorem cells37 : Tryd.prog.cellsOf 37 = 1 := by kernel_rfl
theorem cells24 : Tryd.prog.cellsOf 24 = 3 := by kernel_rfl
theorem argN_of {k : IntKind} {w : World} {A : Option Addr} {l : List Int} (h : Arr w A 1 l.length fun i => [.int k (l.getD i 0)]) : ArgN k w.heap.size w A l.length fun i => l.getD i 0 := fun i hi => by
  obtain ⟨b, o, e, hc⟩ := h i hi
  have h0 := hc 0 _ rfl
  have hb := cell_lt h0
  exact ⟨b, o, e, hb, by simpa using h0⟩
/-- How much a datum holds in all. -/
theorem bulk_pos (d : DataW H) : 1 ≤ Rows.uptoBulk d := by
  cases d with
  | lit l => cases l <;> simp [Rows.uptoBulk]
  | _ => simp [Rows.uptoBulk]
theorem bulk_add (l r : List (DataW H)) : Rows.uptoBulkAll (l ++ r) = Rows.uptoBulkAll l + Rows.uptoBulkAll r := by
  induction l with
  | nil => simp [Rows.uptoBulkAll]
  | cons x l ih => rw [List.cons_append, Rows.uptoBulkAll, ih, Rows.uptoBulkAll]; omega
theorem bulk_mem {d : DataW H} {l : List (DataW H)} (h : d ∈ l) : Rows.uptoBulk d ≤ Rows.uptoBulkAll l := by
  obtain ⟨s, t, rfl⟩ := List.append_of_mem h
  rw [bulk_add, Rows.uptoBulkAll]; omega
theorem bulk_row (D : Nat → DataW H) (n : Nat) : ∀ L, (∀ i, i < L → n ≤ Rows.uptoBulk (D i)) → L * n ≤ Rows.uptoBulkAll ((List.range L).map D)
  | 0, _ => by simp
  | L + 1, h => by
    have ih := bulk_row D n L fun i hi => h i (by omega)
    have := h L (by omega)
    rw [List.range_succ, List.map_append, bulk_add, Nat.succ_mul]
    simp only [List.map_cons, List.map_nil, Rows.uptoBulkAll]
    omega
theorem bulk_slice (l s : List (DataW H)) : Rows.uptoBulkAll l ≤ Rows.uptoBulk (.slice l s) := by
  simp only [Rows.uptoBulk]; omega
/-- A version as it is read. -/
abbrev VerA := Option Addr × Nat × List Int
def verV (y : VerA) : List Value := [.slice y.1 y.2.2.length y.2.1]
def toVer (y : VerA) : Ver := ⟨y.1, y.2.2.length, y.2.1, fun i => y.2.2.getD i 0⟩
def dV : VerA := (none, 0, [])
def WfVer (w : World) (y : VerA) (d : DataW H) : Prop := (∀ x ∈ y.2.2, 0 ≤ x ∧ x < 4294967296) ∧ ArgN .u32 w.heap.size w y.1 y.2.2.length (fun i => y.2.2.getD i 0) ∧ y.2.2.length ≤ Rows.uptoBulk d
theorem ver_of {n : Nat} {cs : List Value} {x : DataW H × List MemPlace} (h : DataW.trod en Tryd.prog w base sp true n 37 cs = some x) (hs : Sized 37 x) : ∃ y, cs = verV y ∧ WfVer w y x.1 := by
  obtain ⟨A, cap, l, D, spare, h1, h2, h3, _, h5⟩ := row_of (V := fun x => [.int .u32 x]) (Wf := fun x _ => 0 ≤ x ∧ x < 4294967296) 0 Tryd.underlying37 cells22 (by omega) (fun _ => rfl) (by kernel_rfl) (fun _ _ _ h _ => one_u32 h) h hs
  refine ⟨(A, cap, l), h1, fun y hy => ?_, argN_of h3, ?_⟩
  · obtain ⟨i, hi, rfl⟩ := List.getElem_of_mem hy
    have := h2 i hi
    simpa [List.getD, hi] using this
  · rcases h5 with e | e
    · rw [e]; exact Nat.zero_le _
    · rw [e]
      have := bulk_row D 1 l.length fun i _ => bulk_pos _
      have := bulk_slice ((List.range l.length).map D) spare
      show l.length ≤ _
      omega
theorem bytes_of {n : Nat} {cs : List Value} {x : DataW H × List MemPlace} (h : DataW.trod en Tryd.prog w base sp true n 26 cs = some x) (hs : Sized 26 x) :
    ∃ (A : Option Addr) (cap : Nat) (l : List Int), cs = [.slice A l.length cap] ∧ (∀ i, i < l.length → 0 ≤ l.getD i 0 ∧ l.getD i 0 < 256) ∧ (Arr w A 1 l.length fun i => [.int .u8 (l.getD i 0)]) ∧ l.length ≤ 140737488355328 := by
  obtain ⟨A, cap, l, D, spare, h1, h2, h3, h4, _⟩ := row_of (V := fun x => [.int .u8 x]) (Wf := fun x _ => 0 ≤ x ∧ x < 256) 0 Tryd.underlying26 cells5 (by omega) (fun _ => rfl) (by kernel_rfl) (fun _ _ _ h _ => one_u8 h) h hs
  exact ⟨A, cap, l, h1, h2, h3, h4⟩
end
section
variable {H : Type} {en : TypeId × Value → H} {w : World} {base b0 : Nat} {sp : Nat → Bool} {r : Reach} {v : Value} {d : DataW H} {p : List MemPlace}
theorem bytes_arg (hv : Value.okWide Tryd.prog w r b0 26 v) (h : DataW.Trod en Tryd.prog w base sp true 26 v d p) (hs : ∀ k ∈ d.weights Tryd.prog 26, k ≤ reachBytes) : ∃ (A : Option Addr) (cap : Nat) (l : List Int), v = .slice A l.length cap ∧ (∀ i, i < l.length → 0 ≤ l.getD i 0 ∧ l.getD i 0 < 256) ∧ ArgN .u8 w.heap.size w A l.length (fun i => l.getD i 0) ∧ l.length ≤ 140737488355328 := by
  obtain ⟨a, len, cap, rfl⟩ := okWide_slice Tryd.underlying26 hv
  obtain ⟨fuel, hf⟩ := h
  obtain ⟨A, cap', l, e, h1, h2, h3⟩ := bytes_of hf hs
  simp [Value.cells] at e
  obtain ⟨rfl, rfl, rfl⟩ := e
  exact ⟨_, _, l, rfl, h1, argN_of h2, h3⟩
/-- A list of versions as a law is given it. -/
theorem vers_arg (hv : Value.okWide Tryd.prog w r b0 25 v) (h : DataW.Trod en Tryd.prog w base sp true 25 v d p) (hs : ∀ k ∈ d.weights Tryd.prog 25, k ≤ reachBytes) : ∃ (A : Option Addr) (cap L : Nat) (F : Nat → Ver), v = .slice A L cap ∧ (∀ i, i < L → Wf (F i).n (F i).v) ∧ VersN w.heap.size w A L F ∧ L ≤ 140737488355328 ∧ L ≤ Rows.uptoBulk d ∧ ∀ n, (∀ i, i < L → (F i).n = n) → L * n ≤ Rows.uptoBulk d := by
  obtain ⟨a, len, cap, rfl⟩ := okWide_slice Tryd.underlying25 hv
  obtain ⟨fuel, hf⟩ := h
  obtain ⟨A, cap', l, D, spare, e, h1, h2, h3, h4⟩ := row_of (V := verV) (Wf := fun y d => WfVer w y d) dV Tryd.underlying25 cells37 (by omega) (fun _ => rfl) (by kernel_rfl) (fun _ _ _ h hs => ver_of h hs) hf hs
  simp [Value.cells] at e
  obtain ⟨rfl, rfl, rfl⟩ := e
  refine ⟨_, _, l.length, fun i => toVer (l.getD i dV), rfl, fun i hi j hj => ?_, fun i hi => ?_, h3, ?_, fun n hn => ?_⟩
  · have hj : j < (l.getD i dV).2.2.length := hj
    exact (h1 i hi).1 _ (getD_mem 0 hj)
  · obtain ⟨b, o, e, hc⟩ := h2 i hi
    have h0 := hc 0 _ rfl
    exact ⟨b, o, e, cell_lt h0, by simpa [verV, toVer] using h0, (h1 i hi).2.1⟩
  · rcases h4 with e | e
    · rw [e]; exact Nat.zero_le _
    · have e : d = _ := e
      rw [e]
      have := bulk_row D 1 l.length fun i _ => bulk_pos _
      have := bulk_slice ((List.range l.length).map D) spare
      omega
  · rcases h4 with e | e
    · rw [e, Nat.zero_mul]; exact Nat.zero_le _
    · have e : d = _ := e
      rw [e]
      have := bulk_row D n l.length fun i hi => by
        have h5 := (h1 i hi).2.2
        have h6 : (l.getD i dV).2.2.length = n := hn i hi
        omega
      have := bulk_slice ((List.range l.length).map D) spare
      omega
set_option maxRecDepth 100000 in
theorem place_arg (hv : Value.okWide Tryd.prog w r b0 24 v) (h : DataW.Trod en Tryd.prog w base sp true 24 v d p) : ∃ a n c : Int, v = .agg #[.int .i64 a, .int .i64 n, .int .u32 c] ∧ (-9223372036854775808 ≤ a ∧ a ≤ 9223372036854775807) ∧ (-9223372036854775808 ≤ n ∧ n ≤ 9223372036854775807) ∧ (0 ≤ c ∧ c < 4294967296) := by
  obtain ⟨cs, rfl, _⟩ := okWide_struct Tryd.underlying24 hv
  obtain ⟨fuel, hf⟩ := h
  obtain ⟨xs, m, _, _, hlen, hx, hf⟩ := DataW.trod_struct Tryd.underlying24 hf
  rw [cells24] at hlen
  have hx : xs.length = 3 := hx
  simp only [Value.cells] at hlen hf
  obtain ⟨l⟩ := cs
  simp only at hlen hf
  match l, hlen, xs, hx with
  | [a0, a1, a2], _, [y0, y1, y2], _ =>
    have h0 : DataW.trod en Tryd.prog w base sp true m 3 [a0] = some y0 := by simpa [cells3] using hf 0 _ rfl
    obtain ⟨z0, e0, b0⟩ := one_i64 h0
    have h1 : DataW.trod en Tryd.prog w base sp true m 3 [a1] = some y1 := by simpa [cells3] using hf 1 _ rfl
    obtain ⟨z1, e1, b1⟩ := one_i64 h1
    have h2 : DataW.trod en Tryd.prog w base sp true m 22 [a2] = some y2 := by simpa [cells3, cells22] using hf 2 _ rfl
    obtain ⟨z2, e2, b2⟩ := one_u32 h2
    injection e0 with e0
    subst e0
    injection e1 with e1
    subst e1
    injection e2 with e2
    subst e2
    exact ⟨z0, z1, z2, rfl, b0, b1, b2⟩
end
end Go.Proofs.YtoaaeamogpdcgaaDoor
