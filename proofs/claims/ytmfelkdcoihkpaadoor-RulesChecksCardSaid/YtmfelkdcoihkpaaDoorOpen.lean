/-
  Arguments opened: a plan.
-/
import Derived.Test.YtmfelkdcoihkpaaDoorLift
import Derived.Test.YtmfelkdcoihkpaaDoorMem
import Derived.Deep.Slices
import Derived.Deep.Fields
namespace Go.Proofs.YtmfelkdcoihkpaaDoor
open Go.ChangeShapes Go.WideShapes Go.ChangeAt Go.RowKit Go.Deep

section
variable {H : Type} {en : TypeId × Value → H} {w : World} {base : Nat} {sp : Nat → Bool}

theorem one_u8 {n : Nat} {cs : List Value} {x : DataW H × List MemPlace} (h : DataW.trod en Tryd.prog w base sp true n 5 cs = some x) : ∃ z, cs = [.int .u8 z] ∧ byte z := by
  obtain ⟨z, rfl, _, hw⟩ := DataW.trod_int Tryd.underlying5 h
  have := bounds_u8 hw
  exact ⟨z, rfl, by unfold byte; omega⟩
theorem one_u16 {n : Nat} {cs : List Value} {x : DataW H × List MemPlace} (h : DataW.trod en Tryd.prog w base sp true n 22 cs = some x) : ∃ z, cs = [.int .u16 z] ∧ wide z := by
  obtain ⟨z, rfl, _, hw⟩ := DataW.trod_int Tryd.underlying22 h
  have := bounds_u16 hw
  exact ⟨z, rfl, by unfold wide; omega⟩

theorem cells51 : Tryd.prog.cellsOf 39 = 4 := by kernel_rfl
set_option maxRecDepth 100000 in
theorem win_of {n : Nat} {cs : List Value} {x : DataW H × List MemPlace} (h : DataW.trod en Tryd.prog w base sp true n 39 cs = some x) : ∃ y : WinA, cs = winV y ∧ WfWin y := by
  obtain ⟨xs, m, _, _, hlen, hx, hf⟩ := DataW.trod_struct Tryd.underlying39 h
  rw [cells51] at hlen
  have hx : xs.length = 4 := hx
  clear h
  match cs, hlen, xs, hx with
  | [a0, a1, a2, a3], _, [y0, y1, y2, y3], _ =>
    have h0 : DataW.trod en Tryd.prog w base sp true m 22 [a0] = some y0 := by simpa [cells47] using hf 0 _ rfl
    obtain ⟨z0, e0, b0⟩ := one_u16 h0
    have h1 : DataW.trod en Tryd.prog w base sp true m 22 [a1] = some y1 := by simpa [cells47] using hf 1 _ rfl
    obtain ⟨z1, e1, b1⟩ := one_u16 h1
    have h2 : DataW.trod en Tryd.prog w base sp true m 5 [a2] = some y2 := by simpa [cells5] using hf 2 _ rfl
    obtain ⟨z2, e2, b2⟩ := one_u8 h2
    have h3 : DataW.trod en Tryd.prog w base sp true m 5 [a3] = some y3 := by simpa [cells5] using hf 3 _ rfl
    obtain ⟨z3, e3, b3⟩ := one_u8 h3
    injection e0 with e0
    subst e0
    injection e1 with e1
    subst e1
    injection e2 with e2
    subst e2
    injection e3 with e3
    subst e3
    exact ⟨(z0, z1, z2, z3), rfl, b0, b1, b2, b3⟩

theorem cells58 : Tryd.prog.cellsOf 96 = 2 := by kernel_rfl
set_option maxRecDepth 100000 in
theorem sem_of {n : Nat} {cs : List Value} {x : DataW H × List MemPlace} (h : DataW.trod en Tryd.prog w base sp true n 96 cs = some x) : ∃ y : SemA, cs = semV y ∧ WfSem y := by
  obtain ⟨xs, m, _, _, hlen, hx, hf⟩ := DataW.trod_struct Tryd.underlying96 h
  rw [cells58] at hlen
  have hx : xs.length = 2 := hx
  clear h
  match cs, hlen, xs, hx with
  | [a0, a1], _, [y0, y1], _ =>
    have h0 : DataW.trod en Tryd.prog w base sp true m 5 [a0] = some y0 := by simpa [cells5] using hf 0 _ rfl
    obtain ⟨z0, e0, b0⟩ := one_u8 h0
    have h1 : DataW.trod en Tryd.prog w base sp true m 5 [a1] = some y1 := by simpa [cells5] using hf 1 _ rfl
    obtain ⟨z1, e1, b1⟩ := one_u8 h1
    injection e0 with e0
    subst e0
    injection e1 with e1
    subst e1
    exact ⟨(z0, z1), rfl, b0, b1⟩

theorem cells62 : Tryd.prog.cellsOf 45 = 2 := by kernel_rfl
set_option maxRecDepth 100000 in
theorem pair_of {n : Nat} {cs : List Value} {x : DataW H × List MemPlace} (h : DataW.trod en Tryd.prog w base sp true n 45 cs = some x) : ∃ y : PairA, cs = semV y ∧ WfPair y := by
  obtain ⟨xs, m, _, _, hlen, hx, hf⟩ := DataW.trod_struct Tryd.underlying45 h
  rw [cells62] at hlen
  have hx : xs.length = 2 := hx
  clear h
  match cs, hlen, xs, hx with
  | [a0, a1], _, [y0, y1], _ =>
    have h0 : DataW.trod en Tryd.prog w base sp true m 5 [a0] = some y0 := by simpa [cells5] using hf 0 _ rfl
    obtain ⟨z0, e0, b0⟩ := one_u8 h0
    have h1 : DataW.trod en Tryd.prog w base sp true m 5 [a1] = some y1 := by simpa [cells5] using hf 1 _ rfl
    obtain ⟨z1, e1, b1⟩ := one_u8 h1
    injection e0 with e0
    subst e0
    injection e1 with e1
    subst e1
    exact ⟨(z0, z1), rfl, b0, b1⟩

theorem cells60 : Tryd.prog.cellsOf 48 = 6 := by kernel_rfl
set_option maxRecDepth 100000 in
theorem chan_of {n : Nat} {cs : List Value} {x : DataW H × List MemPlace} (h : DataW.trod en Tryd.prog w base sp true n 48 cs = some x) : ∃ y : ChanA, cs = chanV y ∧ WfChan y := by
  obtain ⟨xs, m, _, _, hlen, hx, hf⟩ := DataW.trod_struct Tryd.underlying48 h
  rw [cells60] at hlen
  have hx : xs.length = 6 := hx
  clear h
  match cs, hlen, xs, hx with
  | [a0, a1, a2, a3, a4, a5], _, [y0, y1, y2, y3, y4, y5], _ =>
    have h0 : DataW.trod en Tryd.prog w base sp true m 5 [a0] = some y0 := by simpa [cells5] using hf 0 _ rfl
    obtain ⟨z0, e0, b0⟩ := one_u8 h0
    have h1 : DataW.trod en Tryd.prog w base sp true m 5 [a1] = some y1 := by simpa [cells5] using hf 1 _ rfl
    obtain ⟨z1, e1, b1⟩ := one_u8 h1
    have h2 : DataW.trod en Tryd.prog w base sp true m 5 [a2] = some y2 := by simpa [cells5] using hf 2 _ rfl
    obtain ⟨z2, e2, b2⟩ := one_u8 h2
    have h3 : DataW.trod en Tryd.prog w base sp true m 5 [a3] = some y3 := by simpa [cells5] using hf 3 _ rfl
    obtain ⟨z3, e3, b3⟩ := one_u8 h3
    have h4 : DataW.trod en Tryd.prog w base sp true m 5 [a4] = some y4 := by simpa [cells5] using hf 4 _ rfl
    obtain ⟨z4, e4, b4⟩ := one_u8 h4
    have h5 : DataW.trod en Tryd.prog w base sp true m 22 [a5] = some y5 := by simpa [cells47] using hf 5 _ rfl
    obtain ⟨z5, e5, b5⟩ := one_u16 h5
    injection e0 with e0
    subst e0
    injection e1 with e1
    subst e1
    injection e2 with e2
    subst e2
    injection e3 with e3
    subst e3
    injection e4 with e4
    subst e4
    injection e5 with e5
    subst e5
    exact ⟨(z0, z1, z2, z3, z4, z5), rfl, b0, b1, b2, b3, b4, b5⟩

/-- Elements that are read are a list. -/
theorem arr_of {α : Type} {C n : Nat} {a : Addr} {V : α → List Value} {Wf : α → Prop} (d : α) (hC : 0 < C) (hV : ∀ x, (V x).length = C)
    (h : ∀ i, i < n → ∃ y, w.cells? base (a.add (i * C)) C = some (V y) ∧ Wf y) :
    ∃ l : List α, l.length = n ∧ (∀ y ∈ l, Wf y) ∧ Arr w (some a) C n fun i => V (l.getD i d) := by
  classical
  let f : Nat → α := fun i => if hi : i < n then Classical.choose (h i hi) else d
  have hf : ∀ i, i < n → w.cells? base (a.add (i * C)) C = some (V (f i)) ∧ Wf (f i) := fun i hi => by
    have := Classical.choose_spec (h i hi)
    simp only [f, dif_pos hi]
    exact this
  have hg : ∀ i, i < n → ((List.range n).map f).getD i d = f i := fun i hi => by simp [List.getD, hi]
  refine ⟨(List.range n).map f, by simp, fun y hy => ?_, fun i hi => ?_⟩
  · obtain ⟨i, hi, rfl⟩ := List.mem_map.1 hy
    exact (hf i (List.mem_range.1 hi)).2
  · obtain ⟨_, hl, hc⟩ := World.cells?_some (hf i hi).1
    obtain ⟨b, o, spot⟩ := a
    have hs : spot = none := by
      obtain ⟨_, hl0, hc0⟩ := World.cells?_some (hf 0 (by omega)).1
      have h0 := hc0 0 hC
      obtain ⟨u, hu⟩ : ∃ u, (V (f 0))[0]? = some u := ⟨_, List.getElem?_eq_getElem (by rw [hl0]; exact hC)⟩
      rw [hu] at h0
      simpa [Addr.add] using World.cell?_spot h0
    subst hs
    refine ⟨b, o, rfl, fun j u hu => ?_⟩
    simp only [hg i hi] at hu
    have hj : j < C := by
      rw [← hV (f i)]
      exact (List.getElem?_eq_some_iff.1 hu).1
    have := hc j hj
    rw [hu, Go.WideShapes.add_plain, Go.WideShapes.add_plain] at this
    exact this

/-- Within the reach. -/
def Sized (t : TypeId) (x : DataW H × List MemPlace) : Prop := ∀ k ∈ x.1.weights Tryd.prog t, k ≤ reachBytes
theorem weightsAll_mem {e : TypeId} {l : List (DataW H)} {d : DataW H} (h : d ∈ l) {k : Nat} (hk : k ∈ d.weights Tryd.prog e) : k ∈ DataW.weightsAll Tryd.prog e l := by
  induction l with
  | nil => cases h
  | cons a r ih =>
    simp only [DataW.weightsAll, List.mem_append]
    rcases List.mem_cons.1 h with rfl | h
    · exact .inl hk
    · exact .inr (ih h)

/-- A slice that is read is a list. -/
theorem row_of {α : Type} {t e C n : Nat} {V : α → List Value} {Wf : α → Prop} {cs : List Value} {x : DataW H × List MemPlace} (d : α) (ht : Tryd.prog.underlying t = some (.slice e)) (hC : Tryd.prog.cellsOf e = C) (h0 : 0 < C) (hV : ∀ x, (V x).length = C) (hb : Nat.blt 0 (Tryd.prog.bytesOf e) = true)
    (hel : ∀ (n : Nat) (cs : List Value) (x : DataW H × List MemPlace), DataW.trod en Tryd.prog w base sp true n e cs = some x → Sized e x → ∃ y, cs = V y ∧ Wf y)
    (h : DataW.trod en Tryd.prog w base sp true n t cs = some x) (hsz : Sized t x) :
    ∃ (A : Option Addr) (cap : Nat) (l : List α), cs = [.slice A l.length cap] ∧ (∀ y ∈ l, Wf y) ∧ (Arr w A C l.length fun i => V (l.getD i d)) ∧ (l.length ≤ cap ∧ l.length ≤ 140737488355328) ∧ cap ≤ maxLen ∧ (A = none → cap = 0) := by
  rcases open_slice ht h with ⟨rfl, _⟩ | ⟨a, len, cap, m, n', D, Pl, rfl, _, hl, hm, hmm, hx, hi⟩
  · exact ⟨none, 0, [], rfl, by simp, (fun i hi => by simp at hi), by simp, by simp, fun _ => rfl⟩
  · have hlm : len ≤ m := by rw [hmm]; split <;> omega
    rw [hC] at hi
    obtain ⟨l, h1, h2, h3⟩ := arr_of (w := w) (base := base) (n := len) (a := a) (V := V) (Wf := Wf) d h0 hV fun i hin => by
      obtain ⟨cs', hc, ht'⟩ := hi i (by omega)
      obtain ⟨y, rfl, hy⟩ := hel _ _ _ ht' fun k hk => hsz k (by
        rw [hx]
        simp only [DataW.weights, ht]
        exact List.mem_cons_of_mem _ (List.mem_append_left _ (weightsAll_mem (List.mem_map.2 ⟨i, List.mem_range.2 hin, rfl⟩) hk)))
      exact ⟨y, hc, hy⟩
    subst h1
    have hlen : l.length ≤ 140737488355328 := by
      have h1 : 1 ≤ Tryd.prog.bytesOf e := Nat.le_of_ble_eq_true hb
      have h2 := hsz (((List.range l.length).map D).length * Tryd.prog.bytesOf e + ((List.range (m - l.length)).map fun j => D (l.length + j)).length * Tryd.prog.bytesOf e) (by
        rw [hx]
        simp only [DataW.weights, ht, Nat.add_mul]
        exact List.mem_cons_self)
      have h3 := Nat.le_mul_of_pos_right l.length h1
      simp only [List.length_map, List.length_range] at h2
      unfold reachBytes at h2
      omega
    exact ⟨some a, cap, l, rfl, h2, h3, ⟨hl, hlen⟩, hm, fun e => by cases e⟩

theorem core_of {n : Nat} {cs : List Value} {x : DataW H × List MemPlace} (h : DataW.trod en Tryd.prog w base sp true n 43 cs = some x) (hs : Sized 43 x) :
    ∃ (A : Option Addr) (cap : Nat) (l : List WinA), cs = [.slice A l.length cap] ∧ (∀ y ∈ l, WfWin y) ∧ WinsAt w A l ∧ (l.length ≤ cap ∧ l.length ≤ 140737488355328) ∧ cap ≤ maxLen ∧ (A = none → cap = 0) :=
  row_of dW Tryd.underlying43 cells51 (by omega) (fun _ => rfl) (by kernel_rfl) (fun _ _ _ h hs => win_of h) h hs
theorem sems_of {n : Nat} {cs : List Value} {x : DataW H × List MemPlace} (h : DataW.trod en Tryd.prog w base sp true n 49 cs = some x) (hs : Sized 49 x) :
    ∃ (A : Option Addr) (cap : Nat) (l : List SemA), cs = [.slice A l.length cap] ∧ (∀ y ∈ l, WfSem y) ∧ SemsAt w A l ∧ (l.length ≤ cap ∧ l.length ≤ 140737488355328) ∧ cap ≤ maxLen ∧ (A = none → cap = 0) :=
  row_of dS Tryd.underlying49 cells58 (by omega) (fun _ => rfl) (by kernel_rfl) (fun _ _ _ h hs => sem_of h) h hs
theorem procs_of {n : Nat} {cs : List Value} {x : DataW H × List MemPlace} (h : DataW.trod en Tryd.prog w base sp true n 50 cs = some x) (hs : Sized 50 x) :
    ∃ (A : Option Addr) (cap : Nat) (l : List Int), cs = [.slice A l.length cap] ∧ (∀ y ∈ l, byte y) ∧ BytesAt w A l ∧ (l.length ≤ cap ∧ l.length ≤ 140737488355328) ∧ cap ≤ maxLen ∧ (A = none → cap = 0) :=
  row_of (V := fun z => [bV z]) (0 : Int) Tryd.underlying50 cells5 (by omega) (fun _ => rfl) (by kernel_rfl) (fun _ _ _ h hs => one_u8 h) h hs
theorem chans_of {n : Nat} {cs : List Value} {x : DataW H × List MemPlace} (h : DataW.trod en Tryd.prog w base sp true n 25 cs = some x) (hs : Sized 25 x) :
    ∃ (A : Option Addr) (cap : Nat) (l : List ChanA), cs = [.slice A l.length cap] ∧ (∀ y ∈ l, WfChan y) ∧ ChansAt w A l ∧ (l.length ≤ cap ∧ l.length ≤ 140737488355328) ∧ cap ≤ maxLen ∧ (A = none → cap = 0) :=
  row_of dC Tryd.underlying25 cells60 (by omega) (fun _ => rfl) (by kernel_rfl) (fun _ _ _ h hs => chan_of h) h hs
theorem pairs_of {n : Nat} {cs : List Value} {x : DataW H × List MemPlace} (h : DataW.trod en Tryd.prog w base sp true n 26 cs = some x) (hs : Sized 26 x) :
    ∃ (A : Option Addr) (cap : Nat) (l : List PairA), cs = [.slice A l.length cap] ∧ (∀ y ∈ l, WfPair y) ∧ SemsAt w A l ∧ (l.length ≤ cap ∧ l.length ≤ 140737488355328) ∧ cap ≤ maxLen ∧ (A = none → cap = 0) :=
  row_of dS Tryd.underlying26 cells62 (by omega) (fun _ => rfl) (by kernel_rfl) (fun _ _ _ h hs => pair_of h) h hs

/-- A core's windows, with where they lie. -/
def CoreWf (w : World) (y : (Option Addr × Nat) × List WinA) : Prop := (∀ z ∈ y.2, WfWin z) ∧ WinsAt w y.1.1 y.2 ∧ (y.2.length ≤ y.1.2 ∧ y.2.length ≤ 140737488355328) ∧ y.1.2 ≤ maxLen ∧ (y.1.1 = none → y.1.2 = 0)
theorem cells49 : Tryd.prog.cellsOf 43 = 1 := by kernel_rfl
theorem cores_of {n : Nat} {cs : List Value} {x : DataW H × List MemPlace} (h : DataW.trod en Tryd.prog w base sp true n 23 cs = some x) (hs : Sized 23 x) :
    ∃ (A : Option Addr) (cap : Nat) (l : List (List WinA)), cs = [.slice A l.length cap] ∧ (∀ ws ∈ l, (∀ y ∈ ws, WfWin y) ∧ ws.length ≤ 140737488355328) ∧ CoresAt w A l ∧ (l.length ≤ cap ∧ l.length ≤ 140737488355328) ∧ cap ≤ maxLen ∧ (A = none → cap = 0) := by
  obtain ⟨A, cap, l, rfl, h1, h2, h3, h4, h5⟩ := row_of (V := fun y : (Option Addr × Nat) × List WinA => [slV y.1 y.2.length]) (Wf := CoreWf w) ((none, 0), []) Tryd.underlying23 cells49 (by omega) (fun _ => rfl) (by kernel_rfl) (fun _ _ _ h hs => by
    obtain ⟨A, cap, l, rfl, k1, k2, k3, k4, k5⟩ := core_of h hs
    exact ⟨((A, cap), l), rfl, k1, k2, k3, k4, k5⟩) h hs
  have hg : ∀ i, (l.map (·.2)).getD i [] = (l.getD i ((none, 0), [])).2 := fun i => by
    simp only [List.getD_eq_getElem?_getD, List.getElem?_map]
    cases l[i]? <;> rfl
  refine ⟨A, cap, l.map (·.2), by simp, fun ws hw => ?_, ⟨fun i => (l.getD i ((none, 0), [])).1, ?_, fun i hi => ?_⟩, by simpa using h3, h4, h5⟩
  · obtain ⟨y, hy, rfl⟩ := List.mem_map.1 hw
    have := h1 y hy
    exact ⟨this.1, this.2.2.1.2⟩
  · rw [List.length_map]
    intro i hi
    obtain ⟨b, o, e, hc⟩ := h2 i hi
    exact ⟨b, o, e, fun j u hu => hc j u (by dsimp only at hu ⊢; rw [hg i] at hu; exact hu)⟩
  · rw [List.length_map] at hi
    rw [hg i]
    exact ⟨(h1 _ (getD_mem _ hi)).2.1, (h1 _ (getD_mem _ hi)).2.2.1.1⟩

/-- A partition, with where its lists lie. -/
def PartWf (w : World) (y : ((Option Addr × Nat) × (Option Addr × Nat)) × PartA) : Prop :=
  WfPart y.2 ∧ SemsAt w y.1.1.1 y.2.1 ∧ BytesAt w y.1.2.1 y.2.2.2.1 ∧ (y.2.1.length ≤ y.1.1.2 ∧ y.2.1.length ≤ 140737488355328) ∧ y.1.1.2 ≤ maxLen ∧ (y.2.2.2.1.length ≤ y.1.2.2 ∧ y.2.2.2.1.length ≤ 140737488355328) ∧ y.1.2.2 ≤ maxLen ∧ (y.1.1.1 = none → y.1.1.2 = 0) ∧ (y.1.2.1 = none → y.1.2.2 = 0)
theorem cells56 : Tryd.prog.cellsOf 54 = 6 := by kernel_rfl
theorem cells52 : Tryd.prog.cellsOf 49 = 1 := by kernel_rfl
theorem cells31 : Tryd.prog.cellsOf 50 = 1 := by kernel_rfl
theorem cells54 : Tryd.prog.cellsOf 52 = 3 := by kernel_rfl
set_option maxRecDepth 100000 in
theorem acts_of {n : Nat} {cs : List Value} {x : DataW H × List MemPlace} (h : DataW.trod en Tryd.prog w base sp true n 52 cs = some x) : ∃ a b c, cs = [.int .u8 a, .int .u8 b, .int .u8 c] ∧ byte a ∧ byte b ∧ byte c := by
  obtain ⟨xs, m, _, _, hlen, hx, hf⟩ := DataW.trod_array Tryd.underlying52 h
  rw [cells54] at hlen
  clear h
  match cs, hlen, xs, hx with
  | [a0, a1, a2], _, [y0, y1, y2], _ =>
    have h0 : DataW.trod en Tryd.prog w base sp true m 5 [a0] = some y0 := by simpa [cells5] using hf 0 (by omega)
    have h1 : DataW.trod en Tryd.prog w base sp true m 5 [a1] = some y1 := by simpa [cells5] using hf 1 (by omega)
    have h2 : DataW.trod en Tryd.prog w base sp true m 5 [a2] = some y2 := by simpa [cells5] using hf 2 (by omega)
    obtain ⟨z0, e0, b0⟩ := one_u8 h0
    obtain ⟨z1, e1, b1⟩ := one_u8 h1
    obtain ⟨z2, e2, b2⟩ := one_u8 h2
    injection e0 with e0
    injection e1 with e1
    injection e2 with e2
    subst e0 e1 e2
    exact ⟨z0, z1, z2, rfl, b0, b1, b2⟩
set_option maxRecDepth 100000 in
theorem part_of {n : Nat} {cs : List Value} {x : DataW H × List MemPlace} (h : DataW.trod en Tryd.prog w base sp true n 54 cs = some x) (hs : Sized 54 x) : ∃ y : ((Option Addr × Nat) × (Option Addr × Nat)) × PartA, cs = partV y.2 y.1.1 y.1.2 ∧ PartWf w y := by
  obtain ⟨xs, m, _, hxx, hlen, hx, hf⟩ := DataW.trod_struct Tryd.underlying54 h
  rw [cells56] at hlen
  have hx : xs.length = 4 := hx
  clear h
  match cs, hlen, xs, hx with
  | [a0, a1, a2, a3, a4, a5], _, [y0, y1, y2, y3], _ =>
    have h0 : DataW.trod en Tryd.prog w base sp true m 49 [a0] = some y0 := by simpa [cells52] using hf 0 _ rfl
    have h1 : DataW.trod en Tryd.prog w base sp true m 5 [a1] = some y1 := by simpa [cells5] using hf 1 _ rfl
    have h2 : DataW.trod en Tryd.prog w base sp true m 50 [a2] = some y2 := by simpa [cells31] using hf 2 _ rfl
    have h3 : DataW.trod en Tryd.prog w base sp true m 52 [a3, a4, a5] = some y3 := by simpa [cells54] using hf 3 _ rfl
    obtain ⟨z3, z4, z5, e3, b3, b4, b5⟩ := acts_of h3
    have S := fun k hk => hs k (by rw [hxx]; simp only [DataW.weights, Tryd.underlying54, List.map_cons, List.map_nil, DataW.weightsEach, List.mem_append]; exact hk)
    obtain ⟨A, c, l, e0, k1, k2, k3, k4, k5⟩ := sems_of h0 fun k hk => S k (.inl hk)
    obtain ⟨z1, e1, b1⟩ := one_u8 h1
    obtain ⟨A', c', l', e2, q1, q2, q3, q4, q5⟩ := procs_of h2 fun k hk => S k (.inr (.inr (.inl hk)))
    injection e0 with e0
    injection e1 with e1
    injection e2 with e2
    simp only [List.cons.injEq, and_true] at e3
    obtain ⟨e3, e4, e5⟩ := e3
    subst e0 e1 e2 e3 e4 e5
    exact ⟨(((A, c), (A', c')), (l, z1, l', z3, z4, z5)), rfl, ⟨k1, b1, q1, b3, b4, b5⟩, k2, q2, k3, k4, q3, q4, k5, q5⟩
theorem parts_of {n : Nat} {cs : List Value} {x : DataW H × List MemPlace} (h : DataW.trod en Tryd.prog w base sp true n 24 cs = some x) (hs : Sized 24 x) :
    ∃ (A : Option Addr) (cap : Nat) (l : List PartA), cs = [.slice A l.length cap] ∧ (∀ q ∈ l, WfPart q ∧ q.1.length ≤ 140737488355328 ∧ q.2.2.1.length ≤ 140737488355328) ∧ PartsAt w A l ∧ (l.length ≤ cap ∧ l.length ≤ 140737488355328) ∧ cap ≤ maxLen ∧ (A = none → cap = 0) := by
  obtain ⟨A, cap, l, rfl, h1, h2, h3, h4, h5⟩ := row_of (V := fun y : ((Option Addr × Nat) × (Option Addr × Nat)) × PartA => partV y.2 y.1.1 y.1.2) (Wf := PartWf w) (((none, 0), (none, 0)), dQ) Tryd.underlying24 cells56 (by omega) (fun _ => rfl) (by kernel_rfl) (fun _ _ _ h hs => part_of h hs) h hs
  have hg : ∀ i, (l.map (·.2)).getD i dQ = (l.getD i (((none, 0), (none, 0)), dQ)).2 := fun i => by
    simp only [List.getD_eq_getElem?_getD, List.getElem?_map]
    cases l[i]? <;> rfl
  refine ⟨A, cap, l.map (·.2), by simp, fun q hq => ?_, ⟨fun i => (l.getD i (((none, 0), (none, 0)), dQ)).1.1, fun i => (l.getD i (((none, 0), (none, 0)), dQ)).1.2, ?_, fun i hi => ?_⟩, by simpa using h3, h4, h5⟩
  · obtain ⟨y, hy, rfl⟩ := List.mem_map.1 hq
    obtain ⟨a1, _, _, a4, a5, a6, a7, _, _⟩ := h1 y hy
    exact ⟨a1, a4.2, a6.2⟩
  · rw [List.length_map]
    intro i hi
    obtain ⟨b, o, e, hc⟩ := h2 i hi
    exact ⟨b, o, e, fun j u hu => hc j u (by dsimp only at hu ⊢; rw [hg i] at hu; exact hu)⟩
  · rw [List.length_map] at hi
    rw [hg i]
    obtain ⟨_, a2, a3, _, _, _, _, _, a9⟩ := h1 _ (getD_mem (((none, 0), (none, 0)), dQ) hi)
    exact ⟨a2, a3, a9⟩

theorem cells28 : Tryd.prog.cellsOf 28 = 5 := by kernel_rfl
theorem cells23 : Tryd.prog.cellsOf 23 = 1 := by kernel_rfl
theorem cells24 : Tryd.prog.cellsOf 24 = 1 := by kernel_rfl
theorem cells25 : Tryd.prog.cellsOf 25 = 1 := by kernel_rfl
theorem cells26 : Tryd.prog.cellsOf 26 = 1 := by kernel_rfl
set_option maxRecDepth 100000 in
/-- The cells of a plan that is read. -/
theorem plan_of {n : Nat} {cs : List Value} {x : DataW H × List MemPlace} (h : DataW.trod en Tryd.prog w base sp true n 28 cs = some x) (hs : Sized 28 x) :
    ∃ (P : PlanA) (L : PlanL), (Value.agg cs.toArray) = planV P L ∧ PlanAt w P L ∧ WfPlan P ∧ (∀ ws ∈ P.2.1, ws.length ≤ 140737488355328) ∧ (∀ q ∈ P.2.2.1, q.1.length ≤ 140737488355328 ∧ q.2.2.1.length ≤ 140737488355328) ∧ ((P.2.1.length ≤ L.c1 ∧ P.2.1.length ≤ 140737488355328) ∧ L.c1 ≤ maxLen ∧ (L.a1 = none → L.c1 = 0)) ∧ ((P.2.2.1.length ≤ L.c2 ∧ P.2.2.1.length ≤ 140737488355328) ∧ L.c2 ≤ maxLen ∧ (L.a2 = none → L.c2 = 0)) ∧
      ((P.2.2.2.1.length ≤ L.c3 ∧ P.2.2.2.1.length ≤ 140737488355328) ∧ L.c3 ≤ maxLen ∧ (L.a3 = none → L.c3 = 0)) ∧ ((P.2.2.2.2.length ≤ L.c4 ∧ P.2.2.2.2.length ≤ 140737488355328) ∧ L.c4 ≤ maxLen ∧ (L.a4 = none → L.c4 = 0)) := by
  obtain ⟨xs, m, _, hxx, hlen, hx, hf⟩ := DataW.trod_struct Tryd.underlying28 h
  rw [cells28] at hlen
  have hx : xs.length = 5 := hx
  clear h
  match cs, hlen, xs, hx with
  | [a0, a1, a2, a3, a4], _, [y0, y1, y2, y3, y4], _ =>
    have h0 : DataW.trod en Tryd.prog w base sp true m 22 [a0] = some y0 := by simpa [cells47] using hf 0 _ rfl
    have h1 : DataW.trod en Tryd.prog w base sp true m 23 [a1] = some y1 := by simpa [cells23] using hf 1 _ rfl
    have h2 : DataW.trod en Tryd.prog w base sp true m 24 [a2] = some y2 := by simpa [cells24] using hf 2 _ rfl
    have h3 : DataW.trod en Tryd.prog w base sp true m 25 [a3] = some y3 := by simpa [cells25] using hf 3 _ rfl
    have h4 : DataW.trod en Tryd.prog w base sp true m 26 [a4] = some y4 := by simpa [cells26] using hf 4 _ rfl
    obtain ⟨z0, e0, b0⟩ := one_u16 h0
    have S := fun k hk => hs k (by rw [hxx]; simp only [DataW.weights, Tryd.underlying28, List.map_cons, List.map_nil, DataW.weightsEach, List.mem_append]; exact hk)
    obtain ⟨A1, c1, l1, e1, p1, p2, p3⟩ := cores_of h1 fun k hk => S k (.inr (.inl hk))
    obtain ⟨A2, c2, l2, e2, q1, q2, q3⟩ := parts_of h2 fun k hk => S k (.inr (.inr (.inl hk)))
    obtain ⟨A3, c3, l3, e3, r1, r2, r3⟩ := chans_of h3 fun k hk => S k (.inr (.inr (.inr (.inl hk))))
    obtain ⟨A4, c4, l4, e4, s1, s2, s3⟩ := pairs_of h4 fun k hk => S k (.inr (.inr (.inr (.inr (.inl hk)))))
    injection e0 with e0
    injection e1 with e1
    injection e2 with e2
    injection e3 with e3
    injection e4 with e4
    subst e0 e1 e2 e3 e4
    exact ⟨(z0, l1, l2, l3, l4), ⟨A1, c1, A2, c2, A3, c3, A4, c4⟩, rfl, ⟨p2, q2, r2, s2⟩, ⟨b0, fun ws hw => (p1 ws hw).1, fun q hq => (q1 q hq).1, r1, s1⟩, fun ws hw => (p1 ws hw).2, fun q hq => (q1 q hq).2, p3, q3, r3, s3⟩
end
end Go.Proofs.YtmfelkdcoihkpaaDoor
