/-
  Of makes the set of the cores in a slice, or refuses a number that is no core; slices.Contains tells whether a number is in a slice.
-/
import Derived.Test.YtphdlplbcajemaaDoorWhere
import Derived.Below
namespace Go.Proofs.YtphdlplbcajemaaDoor
open Go.RowKit

/-- A slice's value, and what it holds. -/
def Sl (w : World) (v : Value) (l : List Int) : Prop :=
  l.length ≤ 9223372036854775807 ∧ ((l = [] ∧ v = .slice none 0 0) ∨
    ∃ b off cap, v = .slice (some ⟨b, off, none⟩) l.length cap ∧ ∀ i, i < l.length → w.cell? ⟨b, off + i, none⟩ = some (.int .i64 (l.getD i 0)))

theorem Sl.below {w w' : World} {v : Value} {l : List Int} (h : Sl w v l) (hb : Below w.heap.size w w') : Sl w' v l := by
  obtain ⟨h1, h2⟩ := h
  refine ⟨h1, ?_⟩
  rcases h2 with h2 | ⟨b, off, cap, hv, hc⟩
  · exact .inl h2
  · refine .inr ⟨b, off, cap, hv, fun i hi => ?_⟩
    have hci := hc i hi
    rw [hb.cell (p := ⟨b, off + i, none⟩) (by
      by_cases hlt : b < w.heap.size
      · exact hlt
      · have : w.heap[b]? = none := by simp; omega
        simp [World.cell?, this] at hci)]
    exact hci

/-- What slices.Index answers. -/
def IndexOk (l : List Int) (x : Int) (e : Ending) : Prop := ∃ r : Int, e = .returned (.int .i64 r) ∧ -1 ≤ r ∧ r ≤ 9223372036854775807 ∧ (0 ≤ r ↔ x ∈ l)
/-- None of the first k is x. -/
def NotIn (l : List Int) (x : Int) (k : Nat) : Prop := ∀ j, j < k → l.getD j 0 ≠ x
theorem notIn_zero (l : List Int) (x : Int) : NotIn l x 0 := fun j hj => by omega
theorem notIn_succ {l : List Int} {x : Int} {k : Nat} (h : NotIn l x k) (hk : l.getD k 0 ≠ x) : NotIn l x (k + 1) := fun j hj => by
  by_cases e : j = k
  · subst e; exact hk
  · exact h j (by omega)
theorem notIn_all {l : List Int} {x : Int} (h : NotIn l x l.length) : x ∉ l := fun hx => by
  obtain ⟨i, hi, he⟩ := List.getElem_of_mem hx
  refine h i hi ?_
  rw [← he]; simp [List.getD, hi]
theorem in_of_getD {l : List Int} {x : Int} {k : Nat} (hk : k < l.length) (h : l.getD k 0 = x) : x ∈ l := by
  subst h
  have : l.getD k 0 = l[k] := by simp [List.getD, hk]
  rw [this]; exact List.getElem_mem hk

set_option maxHeartbeats 400000 in
theorem index_some (b off cap : Nat) (l : List Int) (x : Int) (w : World) (hl : l.length ≤ 9223372036854775807)
    (hc : ∀ i, i < l.length → w.cell? ⟨b, off + i, none⟩ = some (.int .i64 (l.getD i 0))) :
    Calls Tryd.prog 38 #[.slice (some ⟨b, off, none⟩) l.length cap, .int .i64 x] w fun e w' => IndexOk l x e ∧ w = w' := by
  have HC := Lib.hid hc
  clear hc
  generalize hn : l.length = n at *
  have HN := Lib.hid hn
  clear hn
  go_enter Tryd.func38, Tryd.ntmps38
  go_wp2
  go_loop [8] (fun i => ∃ k : Nat, k ≤ n ∧ NotIn l x k ∧ i = .int .i64 k) (fun i => n - (intOf i).toNat)
  case atStart => exact ⟨0, by omega, notIn_zero _ _, rfl⟩
  case round =>
    obtain ⟨k, hk, hno, rfl⟩ := hrel
    have HNo := Lib.hid hno
    clear hno
    by_cases hlt : k < n
    · have hck := HC.out k hlt
      generalize hy : l.getD k 0 = y at hck
      have HY := Lib.hid hy
      clear hy
      by_cases he : x = y
      · have hb : (x == y) = true := by simpa using he
        have HE := Lib.hid he
        clear he
        go_wp2
        go_ret
        exact ⟨⟨k, rfl, by omega, by omega, ⟨fun _ => in_of_getD (by rw [HN.out]; exact hlt) (by rw [HY.out]; exact HE.out.symm), fun _ => by omega⟩⟩, rfl⟩
      · have hb : (x == y) = false := by simpa using he
        have HE := Lib.hid he
        clear he
        go_wp2
        go_round
        case rel => exact ⟨k + 1, hlt, notIn_succ HNo.out (by rw [HY.out]; exact fun h => HE.out h.symm), by go_num⟩
        case measure => simp [intOf]; omega
    · go_wp2
      go_ret
      have hkn : k = n := by omega
      subst hkn
      have hno := HNo.out
      rw [← HN.out] at hno
      exact ⟨⟨-1, rfl, by omega, by omega, ⟨fun h => by omega, fun h => absurd h (notIn_all hno)⟩⟩, rfl⟩

set_option maxHeartbeats 400000 in
theorem index_nil (x : Int) (w : World) :
    Calls Tryd.prog 38 #[.slice none 0 0, .int .i64 x] w fun e w' => IndexOk [] x e ∧ w = w' := by
  go_enter Tryd.func38, Tryd.ntmps38
  go_wp2
  refine wp_loop_rounds 1 ?_
  rw [rounds_succ]
  go_wp2
  go_ret
  exact ⟨⟨-1, rfl, by omega, by omega, ⟨fun h => by omega, fun h => by simp at h⟩⟩, rfl⟩

theorem index_any (v : Value) (l : List Int) (x : Int) (w : World) (h : Sl w v l) :
    Calls Tryd.prog 38 #[v, .int .i64 x] w fun e w' => IndexOk l x e ∧ w = w' := by
  obtain ⟨hl, ⟨rfl, rfl⟩ | ⟨b, off, cap, rfl, hc⟩⟩ := h
  · exact index_nil x w
  · exact index_some b off cap l x w hl hc

/-- Is a number in a list? -/
def inB (l : List Int) (x : Int) : Bool := decide (x ∈ l)
theorem inB_of {l : List Int} {x r : Int} (h : 0 ≤ r ↔ x ∈ l) : decide (0 ≤ r) = inB l x := by unfold inB; simp [h]

set_option maxHeartbeats 400000 in
theorem contains_any (v : Value) (l : List Int) (x : Int) (w : World) (h : Sl w v l) :
    Calls Tryd.prog 36 #[v, .int .i64 x] w fun e w' => e = .returned (.bool (inB l x)) ∧ w = w' := by
  have H := Lib.hid h
  clear h
  go_enter Tryd.func36, Tryd.ntmps36
  go_wp2_with (go_at_call 38; refine (index_any _ _ _ _ H.out).mono ?_; rintro e w' ⟨⟨r, rfl, hr1, hr2, hr⟩, rfl⟩; have HR := Lib.hid hr; clear hr)
  go_ret
  exact ⟨ret_b (inB_of HR.out), rfl⟩

set_option maxHeartbeats 400000 in
/-- The closure that Of makes. -/
theorem closure_any (p : Addr) (v : Value) (l : List Int) (x : Int) (w : World) (h : Sl w v l) (hp : w.cell? p = some v) :
    Calls Tryd.prog 35 #[.int .i64 x, .pointer (some p)] w fun e w' => e = .returned (.bool (inB l x)) ∧ w = w' := by
  have H := Lib.hid h
  clear h
  go_enter Tryd.func35, Tryd.ntmps35
  go_wp2_with (go_at_call 36; refine (contains_any _ _ _ _ H.out).mono ?_; rintro e w' ⟨rfl, rfl⟩)
  go_ret
  exact ⟨rfl, rfl⟩

theorem lt_of_cell {w : World} {b o : Nat} {v : Value} (h : w.cell? ⟨b, o, none⟩ = some v) : b < w.heap.size := by
  by_cases hlt : b < w.heap.size
  · exact hlt
  · have : w.heap[b]? = none := by simp; omega
    simp [World.cell?, this] at h
theorem TabOk.below {w w' : World} (h : TabOk w) (hb : Below w.heap.size w w') : TabOk w' := fun k hk => by
  rw [hb.cell (p := ⟨0, k, none⟩) (lt_of_cell (h k hk))]; exact h k hk

/-- Are all of them cores? -/
def coresB (l : List Int) : Bool := l.all fun c => decide (0 ≤ c ∧ c < 8)
def ofV (l : List Int) : Int := if coresB l then setF (fun k => inB l k) 8 else 0
def ofE (l : List Int) : Int := if coresB l then 0 else 12
/-- The first k of them are. -/
def CoresTo (l : List Int) (k : Nat) : Prop := ∀ j, j < k → 0 ≤ l.getD j 0 ∧ l.getD j 0 < 8
theorem coresTo_zero (l : List Int) : CoresTo l 0 := fun j hj => by omega
theorem coresTo_succ {l : List Int} {k : Nat} (h : CoresTo l k) (hk : 0 ≤ l.getD k 0 ∧ l.getD k 0 < 8) : CoresTo l (k + 1) := fun j hj => by
  by_cases e : j = k
  · subst e; exact hk
  · exact h j (by omega)
theorem coresTo_all {l : List Int} (h : CoresTo l l.length) : coresB l = true := by
  unfold coresB
  refine List.all_eq_true.2 fun c hc => ?_
  obtain ⟨i, hi, he⟩ := List.getElem_of_mem hc
  have := h i hi
  simp only [List.getD, hi, List.getElem?_eq_getElem, Option.getD_some] at this
  rw [he] at this
  simpa using this
theorem coresTo_not {l : List Int} {k : Nat} (hk : k < l.length) (h : ¬ (0 ≤ l.getD k 0 ∧ l.getD k 0 < 8)) : coresB l = false := by
  unfold coresB
  rw [Bool.eq_false_iff]
  intro hc
  have h2 := List.all_eq_true.1 hc (l[k]) (List.getElem_mem hk)
  refine h ?_
  have : l.getD k 0 = l[k] := by simp [List.getD, hk]
  rw [this]; simpa using h2
theorem of_yes {l : List Int} (h : coresB l = true) : ofV l = setF (fun k => inB l k) 8 ∧ ofE l = 0 := by unfold ofV ofE; simp [h]
theorem of_no {l : List Int} (h : coresB l = false) : ofV l = 0 ∧ ofE l = 12 := by unfold ofV ofE; simp [h]

/-- Where, asked by Of's closure. -/
theorem where_of (v : Value) (l : List Int) (p : Addr) (w : World) (h : Sl w v l) (hp : w.cell? p = some v) (ht : TabOk w) :
    Calls Tryd.prog 28 #[.int .i64 8, .func (.func 35) #[] #[.pointer (some p)]] w fun e w' => e = .returned (.int .u8 (setF (fun k => inB l k) 8)) ∧ w = w' :=
  where_low 35 #[.pointer (some p)] 8 8 (fun k => inB l k) w (fun _ W => w = W) enters35 (by omega) (by omega) (.inl ⟨by omega, rfl⟩) rfl (fun _ _ e => e ▸ ht)
    (fun k W _ hW => by subst hW; exact closure_any p v l k w h hp)

theorem ret_si {a b c d : Int} (h : a = b ∧ c = d) : Ending.returned (.tuple #[.int .u8 a, .int .i64 c]) = .returned (.tuple #[.int .u8 b, .int .i64 d]) := by rw [h.1, h.2]

set_option maxHeartbeats 400000 in
theorem of_some (b off cap : Nat) (l : List Int) (w : World) (hl : l.length ≤ 9223372036854775807) (ht : TabOk w)
    (hc : ∀ i, i < l.length → w.cell? ⟨b, off + i, none⟩ = some (.int .i64 (l.getD i 0))) :
    Calls Tryd.prog 20 #[.slice (some ⟨b, off, none⟩) l.length cap] w fun e w' => e = .returned (.tuple #[.int .u8 (ofV l), .int .i64 (ofE l)]) ∧ Below w.heap.size w w' := by
  have hmf : ∀ (fn : Fn) (first cap : Array Value) (w : World), (Instr.makeFunc fn first cap).run Tryd.prog w = .ok (.func fn first cap) w := fun _ _ _ _ => rfl
  have hb1 : Below w.heap.size w (w.alloc (.cells #[.slice (some ⟨b, off, none⟩) l.length cap] 31)) := (Below.refl _ _).alloc (Nat.le_refl _) _
  have hS : Sl w (.slice (some ⟨b, off, none⟩) l.length cap) l := ⟨hl, .inr ⟨b, off, cap, rfl, hc⟩⟩
  have hW := Lib.hid (where_of (.slice (some ⟨b, off, none⟩) l.length cap) l ⟨w.heap.size, 0, none⟩ _ (hS.below hb1) (by rw [World.cell?_alloc_at _ _ _ _ rfl]; rfl) (ht.below hb1))
  have HC : Hid (∀ i, i < l.length → (w.alloc (.cells #[.slice (some ⟨b, off, none⟩) l.length cap] 31)).cell? ⟨b, off + i, none⟩ = some (.int .i64 (l.getD i 0))) := fun i hi => by
    rw [World.cell?_alloc_past _ _ _ (lt_of_cell (hc i hi))]; exact hc i hi
  have HB := Lib.hid hb1
  clear hb1 hS hc ht
  generalize hn : l.length = n at *
  have HN := Lib.hid hn
  clear hn
  go_enter Tryd.func20, Tryd.ntmps20
  go_wp2
  go_loop [8] (fun i => ∃ k : Nat, k ≤ n ∧ CoresTo l k ∧ i = .int .i64 k) (fun i => n - (intOf i).toNat)
  case atStart => exact ⟨0, by omega, coresTo_zero _, rfl⟩
  case round =>
    obtain ⟨k, hk, hno, rfl⟩ := hrel
    have HNo := Lib.hid hno
    clear hno
    by_cases hlt : k < n
    · have hck := HC.out k hlt
      generalize hy : l.getD k 0 = y at hck
      have HY := Lib.hid hy
      clear hy
      by_cases he : 0 ≤ y ∧ y < 8
      · go_wp2_with (go_at_call 34; refine (core_yes _ _ he.1 he.2).mono ?_; rintro e w' ⟨rfl, rfl⟩)
        go_round
        case rel => exact ⟨k + 1, hlt, coresTo_succ HNo.out (by rw [HY.out]; exact he), by go_num⟩
        case measure => simp [intOf]; omega
      · have HE := Lib.hid he
        clear he
        go_wp2_with (go_at_call 34; refine (core_no _ _ HE.out).mono ?_; rintro e w' ⟨rfl, rfl⟩)
        go_ret2
        exact ⟨ret_si ⟨(of_no (coresTo_not (by rw [HN.out]; exact hlt) (by rw [HY.out]; exact HE.out))).1.symm, (of_no (coresTo_not (by rw [HN.out]; exact hlt) (by rw [HY.out]; exact HE.out))).2.symm⟩, HB.out⟩
    · have hkn : k = n := by omega
      subst hkn
      go_wp2_with (go_at_call 28; refine hW.out.mono ?_; rintro e w' ⟨rfl, rfl⟩)
      go_ret2
      have hno := HNo.out
      rw [← HN.out] at hno
      exact ⟨ret_si ⟨(of_yes (coresTo_all hno)).1.symm, (of_yes (coresTo_all hno)).2.symm⟩, HB.out⟩

set_option maxHeartbeats 400000 in
theorem of_nil (w : World) (ht : TabOk w) :
    Calls Tryd.prog 20 #[.slice none 0 0] w fun e w' => e = .returned (.tuple #[.int .u8 (ofV []), .int .i64 (ofE [])]) ∧ Below w.heap.size w w' := by
  have hmf : ∀ (fn : Fn) (first cap : Array Value) (w : World), (Instr.makeFunc fn first cap).run Tryd.prog w = .ok (.func fn first cap) w := fun _ _ _ _ => rfl
  have hb1 : Below w.heap.size w (w.alloc (.cells #[.slice none 0 0] 31)) := (Below.refl _ _).alloc (Nat.le_refl _) _
  have hS : Sl w (.slice none 0 0) [] := ⟨by simp, .inl ⟨rfl, rfl⟩⟩
  have hW := Lib.hid (where_of (.slice none 0 0) [] ⟨w.heap.size, 0, none⟩ _ (hS.below hb1) (by rw [World.cell?_alloc_at _ _ _ _ rfl]; rfl) (ht.below hb1))
  have HB := Lib.hid hb1
  clear hb1 hS ht
  go_enter Tryd.func20, Tryd.ntmps20
  go_wp2
  refine wp_loop_rounds 1 ?_
  rw [rounds_succ]
  go_wp2_with (go_at_call 28; refine hW.out.mono ?_; rintro e w' ⟨rfl, rfl⟩)
  go_ret2
  exact ⟨ret_si ⟨(of_yes rfl).1.symm, (of_yes rfl).2.symm⟩, HB.out⟩

theorem of_any (v : Value) (l : List Int) (w : World) (h : Sl w v l) (ht : TabOk w) :
    Calls Tryd.prog 20 #[v] w fun e w' => e = .returned (.tuple #[.int .u8 (ofV l), .int .i64 (ofE l)]) ∧ Below w.heap.size w w' := by
  obtain ⟨hl, ⟨rfl, rfl⟩ | ⟨b, off, cap, rfl, hc⟩⟩ := h
  · exact of_nil w ht
  · exact of_some b off cap l w hl ht hc
end Go.Proofs.YtphdlplbcajemaaDoor
