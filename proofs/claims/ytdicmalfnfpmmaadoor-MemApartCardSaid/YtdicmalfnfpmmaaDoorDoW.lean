/-
  A use of the given memory.
-/
import Derived.Test.YtdicmalfnfpmmaaDoorDo
import Derived.Deep.AppendLies
import Derived.Deep.RegionHeld3
namespace Go.Proofs.YtdicmalfnfpmmaaDoor
open Go.RowKit

theorem info_parts {t : TypeId} {z : Value} {s b : Nat} (h : (Tryd.prog.info? t).map (fun i => (i.zero, i.size, i.bytes)) = some (some z, s, b)) : ∃ i0, Tryd.prog.info? t = some i0 ∧ i0.zero = some z ∧ i0.size = s ∧ i0.bytes = b := by
  obtain ⟨i0, h1, h2⟩ := Option.map_eq_some_iff.1 h
  simp at h2
  exact ⟨i0, h1, h2.1, h2.2.1, h2.2.2⟩
theorem Us.other {w : World} {b o n : Nat} {f : Nat → Int} (h : Us w (some ⟨b, o, none⟩) n f) {a : Addr} (ha : a.block ≠ b) (v : Value) : Us (w.setCell a v) (some ⟨b, o, none⟩) n f := fun j hj =>
  ⟨b, o, rfl, by rw [World.cell?_of_block (w := w) (Below.heap_setCell _ _ _ _ (fun e => ha e.symm))]; exact h.cell hj⟩
theorem Us.set0 {w : World} {b n : Nat} {f : Nat → Int} (h : Us w (some ⟨b, 0, none⟩) n f) {i : Nat} (hi : i < n) (v : Int) : Us (w.setCell ⟨b, i, none⟩ (.int .u32 v)) (some ⟨b, 0, none⟩) n (setF f i v) := by
  have := h.set hi v
  rw [Nat.zero_add] at this
  exact this
theorem Us.self {w : World} {A : Option Addr} {n : Nat} {f : Nat → Int} (h : Us w A n f) (i : Nat) (x : Int) (e : x = f i) : Us w A n (setF f i x) := h.congr fun j _ => by
  unfold setF
  split
  · rename_i h; rw [h, e]
  · rfl
theorem or_int (a b : Int) (w : World) (h1 : 0 ≤ a) (h2 : a < 4294967296) (h3 : 0 ≤ b) (h4 : b < 4294967296) :
    Calls Tryd.prog 25 #[.int .u32 a, .int .u32 b] w fun e w' => e = .returned (.int .u32 (bits .or .u32 a b)) ∧ w = w' := by
  obtain ⟨x, rfl⟩ := Int.eq_ofNat_of_zero_le h1
  obtain ⟨y, rfl⟩ := Int.eq_ofNat_of_zero_le h3
  rw [u32_or_nat x y (by omega) (by omega)]
  exact or_any x y w (by omega) (by omega)
theorem Us.drew {w : World} {A : Option Addr} {n : Nat} {f : Nat → Int} (h : Us w A n f) : Us w.drew A n f := h
def newsU (n : Nat) (f : Nat → Int) : List Value := (List.range n).map fun i => .int .u32 (f i)
theorem newsU_at {n : Nat} {f : Nat → Int} {j : Nat} {v : Value} (h : (newsU n f)[j]? = some v) : j < n ∧ v = .int .u32 (f j) := by
  unfold newsU at h
  have hj : j < n := by
    rcases Nat.lt_or_ge j n with h' | h'
    · exact h'
    · rw [List.getElem?_eq_none (by simpa using h')] at h; cases h
  rw [List.getElem?_map, List.getElem?_range hj] at h
  injection h with h
  exact ⟨hj, h.symm⟩
theorem news_of {w : World} {b o n : Nat} {f : Nat → Int} (h : Us w (some ⟨b, o, none⟩) n f) : ∀ j u, (newsU n f)[j]? = some u → w.cell? ((⟨b, o, none⟩ : Addr).add j) = some u := by
  intro j u hu
  obtain ⟨hj, rfl⟩ := newsU_at hu
  rw [show (⟨b, o, none⟩ : Addr).add j = ⟨b, o + j, none⟩ by unfold Addr.add; split <;> simp_all]
  exact h.cell hj
/-- What an append of all words leaves. -/
theorem own_us {w : World} {base n : Nat} {f : Nat → Int} {v : Value} (h : w.ownsRow base 33 1 v n (newsU n f)) (hn : 0 < n) : ∃ g cap, v = .slice (some ⟨g, 0, none⟩) n cap ∧ base ≤ g ∧ g < w.heap.size ∧ Us w (some ⟨g, 0, none⟩) n f ∧ ∀ j, w.frozen? ⟨g, j, none⟩ = false := by
  obtain ⟨g, cap, rfl, h1, h2⟩ := h.form hn
  refine ⟨g, cap, rfl, h1, h2, fun i hi => ⟨g, 0, rfl, ?_⟩, h.frozenAt⟩
  rw [Nat.zero_add, h.cellAt i (by omega)]
  unfold newsU
  rw [List.getElem?_map, List.getElem?_range hi]
  rfl
/-- Three blocks of the call's own: the memory, the use, the answer. -/
structure Trio (W : World) (s : Nat) (A : Option Addr) (n cap : Nat) (c K at' old v : Int) : Prop where
  m0 : W.cell? ⟨s, 0, none⟩ = some (.slice A n cap)
  m1 : W.cell? ⟨s, 1, none⟩ = some (.int .i64 c)
  x0 : W.cell? ⟨s + 1, 0, none⟩ = some (.int .i64 K)
  x1 : W.cell? ⟨s + 1, 1, none⟩ = some (.int .i64 at')
  x2 : W.cell? ⟨s + 1, 2, none⟩ = some (.int .u32 old)
  x3 : W.cell? ⟨s + 1, 3, none⟩ = some (.int .u32 v)
  r0 : W.cell? ⟨s + 1 + 1, 0, none⟩ = some (.slice none 0 0)
  r1 : W.cell? ⟨s + 1 + 1, 1, none⟩ = some (.int .i64 0)
  fz : ∀ j, W.frozen? ⟨s + 1 + 1, j, none⟩ = false
theorem Trio.lt {W : World} {s : Nat} {A : Option Addr} {n cap : Nat} {c K at' old v : Int} (h : Trio W s A n cap c K at' old v) : s + 1 + 1 < W.heap.size := cell_lt h.r0
theorem Trio.same {W W' : World} {s : Nat} {A : Option Addr} {n cap : Nat} {c K at' old v : Int} (h : Trio W s A n cap c K at' old v) (e : ∀ k, k < s + 3 → W'.heap[k]? = W.heap[k]?) : Trio W' s A n cap c K at' old v := by
  have q : ∀ b j, b < s + 3 → W'.cell? ⟨b, j, none⟩ = W.cell? ⟨b, j, none⟩ := fun b j hb => World.cell?_of_block (w := W) (e b hb)
  refine ⟨?_, ?_, ?_, ?_, ?_, ?_, ?_, ?_, fun j => ?_⟩
  · rw [q _ _ (by omega)]; exact h.m0
  · rw [q _ _ (by omega)]; exact h.m1
  · rw [q _ _ (by omega)]; exact h.x0
  · rw [q _ _ (by omega)]; exact h.x1
  · rw [q _ _ (by omega)]; exact h.x2
  · rw [q _ _ (by omega)]; exact h.x3
  · rw [q _ _ (by omega)]; exact h.r0
  · rw [q _ _ (by omega)]; exact h.r1
  · rw [World.frozen?_of_block (w := W) (a := ⟨s + 1 + 1, j, none⟩) (e (s + 1 + 1) (by omega))]; exact h.fz j
theorem Trio.keep {W W' : World} {s : Nat} {A : Option Addr} {n cap : Nat} {c K at' old v : Int} (h : Trio W s A n cap c K at' old v) (hB : Below W.heap.size W W') : Trio W' s A n cap c K at' old v :=
  h.same fun k hk => hB.block k (by have := h.lt; omega)
def trioW (w : World) (A : Option Addr) (n cap : Nat) (c K at' old v : Int) : World :=
  ((w.alloc (.cells #[.slice A n cap, .int .i64 c] 29)).alloc (.cells #[.int .i64 K, .int .i64 at', .int .u32 old, .int .u32 v] 35)).alloc (.cells #[.slice none 0 0, .int .i64 0] 29)
theorem Trio.new (w : World) (A : Option Addr) (n cap : Nat) (c K at' old v : Int) : Trio (trioW w A n cap c K at' old v) w.heap.size A n cap c K at' old v := by
  obtain ⟨W1, h1⟩ : ∃ W1, W1 = w.alloc (.cells #[.slice A n cap, .int .i64 c] 29) := ⟨_, rfl⟩
  obtain ⟨W2, h2⟩ : ∃ W2, W2 = W1.alloc (.cells #[.int .i64 K, .int .i64 at', .int .u32 old, .int .u32 v] 35) := ⟨_, rfl⟩
  obtain ⟨W3, h3⟩ : ∃ W3, W3 = W2.alloc (.cells #[.slice none 0 0, .int .i64 0] 29) := ⟨_, rfl⟩
  have e : trioW w A n cap c K at' old v = W3 := by rw [h3, h2, h1]; rfl
  have s1 : W1.heap.size = w.heap.size + 1 := by rw [h1]; simp
  have s2 : W2.heap.size = w.heap.size + 1 + 1 := by rw [h2]; simp [s1]
  have b2 : Below W1.heap.size W1 W2 := by rw [h2]; exact (Below.refl _ _).alloc (Nat.le_refl _) _
  have b3 : Below W2.heap.size W2 W3 := by rw [h3]; exact (Below.refl _ _).alloc (Nat.le_refl _) _
  rw [e]
  refine ⟨?_, ?_, ?_, ?_, ?_, ?_, ?_, ?_, fun j => ?_⟩
  · exact kept (kept (by rw [h1]; simp) b2) b3
  · exact kept (kept (by rw [h1]; simp) b2) b3
  · exact kept (by rw [← s1, h2]; simp) b3
  · exact kept (by rw [← s1, h2]; simp) b3
  · exact kept (by rw [← s1, h2]; simp) b3
  · exact kept (by rw [← s1, h2]; simp) b3
  · rw [← s2, h3]; simp
  · rw [← s2, h3]; simp
  · rw [← s2, h3]; exact frozen_new _ _ _ _
theorem trio_below (w : World) (A : Option Addr) (n cap : Nat) (c K at' old v : Int) : Below w.heap.size w (trioW w A n cap c K at' old v) :=
  (((Below.refl _ _).alloc (Nat.le_refl _) _).alloc (by simp) _).alloc (by simp; omega) _
theorem trio_size (w : World) (A : Option Addr) (n cap : Nat) (c K at' old v : Int) : (trioW w A n cap c K at' old v).heap.size = w.heap.size + 1 + 1 + 1 := by unfold trioW; simp

set_option maxHeartbeats 2000000 in
set_option maxRecDepth 100000 in
theorem do_no (K at' old v : Int) (A : Option Addr) (n cap : Nat) (c : Int) (w : World) (_ : n ≤ 4096) (ha : ¬ (0 ≤ at' ∧ at' < n)) :
    Calls Tryd.prog 23 #[.agg #[.slice A n cap, .int .i64 c], xV K at' old v] w fun e w' => e = .returned (.tuple #[.agg #[.slice A n cap, .int .i64 c], .int .u32 0, .int .i64 81]) ∧ Below w.heap.size w w' := by
  unfold xV
  have fin : ∀ r : Array Value, Below w.heap.size w (((w.alloc (.cells #[.slice A n cap, .int .i64 c] 29)).alloc (.cells #[.int .i64 K, .int .i64 at', .int .u32 old, .int .u32 v] 35)).alloc (.cells r 29)) := fun r =>
    (((Below.refl _ _).alloc (Nat.le_refl _) _).alloc (by simp) _).alloc (by simp; omega) _
  have HF := Lib.hid fin
  clear fin
  by_cases h1 : at' < 0
  · clear ha
    go_enter Tryd.func23, Tryd.ntmps23
    go_wp2_with fail
    all_goals refine bodyPost_ret (v := .tuple #[.agg #[.slice A n cap, .int .i64 c], .int .u32 0, .int .i64 81]) (by simp [results, Tryd.results23, go_sem]) rfl ⟨rfl, HF.out _⟩
  · have h2 : (n : Int) ≤ at' := by omega
    clear ha
    go_enter Tryd.func23, Tryd.ntmps23
    go_wp2_with fail
    all_goals refine bodyPost_ret (v := .tuple #[.agg #[.slice A n cap, .int .i64 c], .int .u32 0, .int .i64 81]) (by simp [results, Tryd.results23, go_sem]) rfl ⟨rfl, HF.out _⟩


set_option maxHeartbeats 4000000 in
set_option maxRecDepth 100000 in
theorem do0_yes (old v : Int) (i : Nat) (A : Option Addr) (n cap : Nat) (f : Nat → Int) (c : Int) (w : World) (hA : Us w A n f) (hn : n ≤ 4096) (ha : i < n) (hc : 0 ≤ c ∧ c ≤ 1000) (hwf : WfF n f) (hv : 0 ≤ v ∧ v < 4294967296) :
    Calls Tryd.prog 23 #[.agg #[.slice A n cap, .int .i64 c], xV 0 i old v] w fun e w' => ∃ A' d', e = .returned (.tuple #[.agg #[.slice A' n d', .int .i64 (c + 1)], .int .u32 (f i), .int .i64 0]) ∧ Us w' A' n (setF f i (afterS 0 old v (f i))) ∧ Below w.heap.size w w' ∧ (∀ x, A' = some x → w.heap.size ≤ x.block) := by
  obtain ⟨i0, hi, hz0, hz1, hz2⟩ := info_parts info33
  have HI0 := Lib.hid hi
  have HZ0 := Lib.hid hz0
  have HZ1 := Lib.hid hz1
  have HZ2 := Lib.hid hz2
  clear hi hz0 hz1 hz2
  obtain ⟨hc0, hc1⟩ := hc
  obtain ⟨b, o, rfl⟩ := hA.head ha
  have hx := hwf i ha
  obtain ⟨hx0, hx1⟩ := hx
  obtain ⟨hv0, hv1⟩ := hv
  unfold xV
  obtain ⟨W3, hW3⟩ : ∃ W3, W3 = (trioW w (some ⟨b, o, none⟩) n cap c 0 i old v).alloc (.cells #[] 33) := ⟨_, rfl⟩
  have hb3 : Below w.heap.size w W3 := by rw [hW3]; exact (trio_below w (some ⟨b, o, none⟩) n cap c 0 i old v).alloc (by rw [trio_size]; omega) _
  have hs3 : W3.heap.size = w.heap.size + 1 + 1 + 1 + 1 := by rw [hW3, World.size_alloc, trio_size]
  have ht3 : Trio W3 w.heap.size (some ⟨b, o, none⟩) n cap c 0 i old v := by rw [hW3]; exact (Trio.new w (some ⟨b, o, none⟩) n cap c 0 i old v).keep ((Below.refl _ _).alloc (Nat.le_refl _) _)
  have ho3 : W3.ownsRow (w.heap.size + 1 + 1 + 1) 33 1 (.slice (some ⟨w.heap.size + 1 + 1 + 1, 0, none⟩) 0 0) 0 [] := by
    rw [hW3, ← trio_size w (some ⟨b, o, none⟩) n cap c 0 i old v]
    exact World.ownsRow_lit _ #[] 0 (Nat.le_refl _) (by decide) rfl
  have hn3 := news_of (hA.keep hb3)
  have HW3 := Lib.hid hW3
  have HB3 := Lib.hid hb3
  have HS3 := Lib.hid hs3
  have HT3 := Lib.hid ht3
  have HO3 := Lib.hid ho3
  have HN3 := Lib.hid hn3
  have HFIN := Lib.hid (fun A' (d' : Nat) W (h : Us W A' n (setF f i (afterS 0 old v (f i)))) => h)
  simp only [afterS] at HFIN
  obtain ⟨x, hxf⟩ : ∃ x, x = f i := ⟨_, rfl⟩
  have HX := Lib.hid hxf
  try rw [← hxf] at HFIN
  rw [← hxf] at hx0 hx1 ⊢
  have z0 := ht3.m0
  rw [hW3] at z0
  unfold trioW at HW3 z0
  clear hW3 hb3 hs3 ht3 ho3 hn3 hA hwf hxf
  go_enter Tryd.func23, Tryd.ntmps23
  go_wp2_with (at_builtin; (refine wpList_append_own _ rfl _ _ 27 rfl (w.heap.size + 1 + 1 + 1) 33 i0 (.int .u32 0) 1 4 Tryd.underlying27 HI0.out HZ0.out HZ1.out HZ2.out rfl (by decide) _ 0 [] rfl (by rw [← HW3.out]; exact HO3.out) ⟨b, o, none⟩ n cap (newsU n f) rfl (by simp [newsU]) ?c1 ?c2 ?c3 ?c4 ?c5 ?_))
  case c1 => rw [← HW3.out]; exact HN3.out
  case c2 => intro u hu; obtain ⟨j, hj⟩ := List.getElem?_of_mem hu; obtain ⟨_, rfl⟩ := newsU_at hj; rfl
  case c3 => unfold maxLen; omega
  case c4 => omega
  case c5 => rw [← HW3.out, HS3.out]; omega
  intro v1 w9 hown1 hgrow1 _
  rw [← HW3.out] at hgrow1
  have hs3 := HS3.out
  obtain ⟨g, d, rfl, hg1, hg2, hus, hfz⟩ := own_us hown1 (by omega)
  have hb9 : Below w.heap.size w w9 := HB3.out.grown hgrow1 HB3.out.size (fun k hk => by have : k = w.heap.size + 1 + 1 + 1 := by simpa [Value.ownBlock] using hk.symm
                                                                                         omega)
  have ht9 := HT3.out.same (W' := w9) (fun k hk => hgrow1.block k (by omega) (fun e => by have : k = w.heap.size + 1 + 1 + 1 := by simpa [Value.ownBlock] using e
                                                                                          omega))
  have q0 := hus.cell ha
  rw [Nat.zero_add] at q0
  have qf := hfz i
  have m1 := ht9.m1
  have x0 := ht9.x0
  have x1 := ht9.x1
  have x2 := ht9.x2
  have x3 := ht9.x3
  have r0 := ht9.r0
  have r1 := ht9.r1
  have rf := ht9.fz 0
  have rg := ht9.fz 1
  rw [← HX.out] at q0
  have HUS := Lib.hid hus
  have HB9 := Lib.hid hb9
  have n1 : g ≠ w.heap.size := by omega
  have n2 : g ≠ w.heap.size + 1 := by omega
  have n3 : g ≠ w.heap.size + 1 + 1 := by omega
  have n4 : w.heap.size + 1 + 1 ≠ g := by omega
  clear hus hb9 ht9 hfz hown1 hgrow1 hs3 z0

  go_wp2_with fail
  refine bodyPost_ret (v := .tuple #[.agg #[.slice (some ⟨g, 0, none⟩) n d, .int .i64 (c + 1)], .int .u32 x, .int .i64 0]) (by simp [results, Tryd.results23, go_sem, r0, r1]) rfl ?_
  first
    | exact ⟨some ⟨g, 0, none⟩, d, rfl, ((HUS.out.self i x HX.out).other n4 _).other n4 _, ((HB9.out.setCell (by simp; omega) _).setCell (by simp; omega) _), (fun x e => by obtain rfl := Option.some.inj e; show w.heap.size ≤ g; omega)⟩
    | exact ⟨some ⟨g, 0, none⟩, ⟨d, rfl⟩, ((HUS.out.self i x HX.out).other n4 _).other n4 _, ((HB9.out.setCell (by simp; omega) _).setCell (by simp; omega) _), (fun x e => by obtain rfl := Option.some.inj e; show w.heap.size ≤ g; omega)⟩


set_option maxHeartbeats 4000000 in
set_option maxRecDepth 100000 in
theorem do1_yes (old v : Int) (i : Nat) (A : Option Addr) (n cap : Nat) (f : Nat → Int) (c : Int) (w : World) (hA : Us w A n f) (hn : n ≤ 4096) (ha : i < n) (hc : 0 ≤ c ∧ c ≤ 1000) (hwf : WfF n f) (hv : 0 ≤ v ∧ v < 4294967296) :
    Calls Tryd.prog 23 #[.agg #[.slice A n cap, .int .i64 c], xV 1 i old v] w fun e w' => ∃ A' d', e = .returned (.tuple #[.agg #[.slice A' n d', .int .i64 (c + 1)], .int .u32 (f i), .int .i64 0]) ∧ Us w' A' n (setF f i (afterS 1 old v (f i))) ∧ Below w.heap.size w w' ∧ (∀ x, A' = some x → w.heap.size ≤ x.block) := by
  obtain ⟨i0, hi, hz0, hz1, hz2⟩ := info_parts info33
  have HI0 := Lib.hid hi
  have HZ0 := Lib.hid hz0
  have HZ1 := Lib.hid hz1
  have HZ2 := Lib.hid hz2
  clear hi hz0 hz1 hz2
  obtain ⟨hc0, hc1⟩ := hc
  obtain ⟨b, o, rfl⟩ := hA.head ha
  have hx := hwf i ha
  obtain ⟨hx0, hx1⟩ := hx
  obtain ⟨hv0, hv1⟩ := hv
  unfold xV
  obtain ⟨W3, hW3⟩ : ∃ W3, W3 = (trioW w (some ⟨b, o, none⟩) n cap c 1 i old v).alloc (.cells #[] 33) := ⟨_, rfl⟩
  have hb3 : Below w.heap.size w W3 := by rw [hW3]; exact (trio_below w (some ⟨b, o, none⟩) n cap c 1 i old v).alloc (by rw [trio_size]; omega) _
  have hs3 : W3.heap.size = w.heap.size + 1 + 1 + 1 + 1 := by rw [hW3, World.size_alloc, trio_size]
  have ht3 : Trio W3 w.heap.size (some ⟨b, o, none⟩) n cap c 1 i old v := by rw [hW3]; exact (Trio.new w (some ⟨b, o, none⟩) n cap c 1 i old v).keep ((Below.refl _ _).alloc (Nat.le_refl _) _)
  have ho3 : W3.ownsRow (w.heap.size + 1 + 1 + 1) 33 1 (.slice (some ⟨w.heap.size + 1 + 1 + 1, 0, none⟩) 0 0) 0 [] := by
    rw [hW3, ← trio_size w (some ⟨b, o, none⟩) n cap c 1 i old v]
    exact World.ownsRow_lit _ #[] 0 (Nat.le_refl _) (by decide) rfl
  have hn3 := news_of (hA.keep hb3)
  have HW3 := Lib.hid hW3
  have HB3 := Lib.hid hb3
  have HS3 := Lib.hid hs3
  have HT3 := Lib.hid ht3
  have HO3 := Lib.hid ho3
  have HN3 := Lib.hid hn3
  have HFIN := Lib.hid (fun A' (d' : Nat) W (h : Us W A' n (setF f i (afterS 1 old v (f i)))) => h)
  simp only [afterS] at HFIN
  obtain ⟨x, hxf⟩ : ∃ x, x = f i := ⟨_, rfl⟩
  have HX := Lib.hid hxf
  try rw [← hxf] at HFIN
  rw [← hxf] at hx0 hx1 ⊢
  have z0 := ht3.m0
  rw [hW3] at z0
  unfold trioW at HW3 z0
  clear hW3 hb3 hs3 ht3 ho3 hn3 hA hwf hxf
  go_enter Tryd.func23, Tryd.ntmps23
  go_wp2_with (at_builtin; (refine wpList_append_own _ rfl _ _ 27 rfl (w.heap.size + 1 + 1 + 1) 33 i0 (.int .u32 0) 1 4 Tryd.underlying27 HI0.out HZ0.out HZ1.out HZ2.out rfl (by decide) _ 0 [] rfl (by rw [← HW3.out]; exact HO3.out) ⟨b, o, none⟩ n cap (newsU n f) rfl (by simp [newsU]) ?c1 ?c2 ?c3 ?c4 ?c5 ?_))
  case c1 => rw [← HW3.out]; exact HN3.out
  case c2 => intro u hu; obtain ⟨j, hj⟩ := List.getElem?_of_mem hu; obtain ⟨_, rfl⟩ := newsU_at hj; rfl
  case c3 => unfold maxLen; omega
  case c4 => omega
  case c5 => rw [← HW3.out, HS3.out]; omega
  intro v1 w9 hown1 hgrow1 _
  rw [← HW3.out] at hgrow1
  have hs3 := HS3.out
  obtain ⟨g, d, rfl, hg1, hg2, hus, hfz⟩ := own_us hown1 (by omega)
  have hb9 : Below w.heap.size w w9 := HB3.out.grown hgrow1 HB3.out.size (fun k hk => by have : k = w.heap.size + 1 + 1 + 1 := by simpa [Value.ownBlock] using hk.symm
                                                                                         omega)
  have ht9 := HT3.out.same (W' := w9) (fun k hk => hgrow1.block k (by omega) (fun e => by have : k = w.heap.size + 1 + 1 + 1 := by simpa [Value.ownBlock] using e
                                                                                          omega))
  have q0 := hus.cell ha
  rw [Nat.zero_add] at q0
  have qf := hfz i
  have m1 := ht9.m1
  have x0 := ht9.x0
  have x1 := ht9.x1
  have x2 := ht9.x2
  have x3 := ht9.x3
  have r0 := ht9.r0
  have r1 := ht9.r1
  have rf := ht9.fz 0
  have rg := ht9.fz 1
  rw [← HX.out] at q0
  have HUS := Lib.hid hus
  have HB9 := Lib.hid hb9
  have n1 : g ≠ w.heap.size := by omega
  have n2 : g ≠ w.heap.size + 1 := by omega
  have n3 : g ≠ w.heap.size + 1 + 1 := by omega
  have n4 : w.heap.size + 1 + 1 ≠ g := by omega
  clear hus hb9 ht9 hfz hown1 hgrow1 hs3 z0

  go_wp2_with fail
  refine bodyPost_ret (v := .tuple #[.agg #[.slice (some ⟨g, 0, none⟩) n d, .int .i64 (c + 1)], .int .u32 x, .int .i64 0]) (by simp [results, Tryd.results23, go_sem, r0, r1]) rfl ?_
  first
    | exact ⟨some ⟨g, 0, none⟩, d, rfl, ((HUS.out.set0 ha _).other n4 _).other n4 _, (((HB9.out.setCell (by simp; omega) _).setCell (by simp; omega) _).setCell (by simp; omega) _), (fun x e => by obtain rfl := Option.some.inj e; show w.heap.size ≤ g; omega)⟩
    | exact ⟨some ⟨g, 0, none⟩, ⟨d, rfl⟩, ((HUS.out.set0 ha _).other n4 _).other n4 _, (((HB9.out.setCell (by simp; omega) _).setCell (by simp; omega) _).setCell (by simp; omega) _), (fun x e => by obtain rfl := Option.some.inj e; show w.heap.size ≤ g; omega)⟩


set_option maxHeartbeats 4000000 in
set_option maxRecDepth 100000 in
theorem do2_yes (old v : Int) (i : Nat) (A : Option Addr) (n cap : Nat) (f : Nat → Int) (c : Int) (w : World) (hA : Us w A n f) (hn : n ≤ 4096) (ha : i < n) (hc : 0 ≤ c ∧ c ≤ 1000) (hwf : WfF n f) (hv : 0 ≤ v ∧ v < 4294967296) :
    Calls Tryd.prog 23 #[.agg #[.slice A n cap, .int .i64 c], xV 2 i old v] w fun e w' => ∃ A' d', e = .returned (.tuple #[.agg #[.slice A' n d', .int .i64 (c + 1)], .int .u32 (f i), .int .i64 0]) ∧ Us w' A' n (setF f i (afterS 2 old v (f i))) ∧ Below w.heap.size w w' ∧ (∀ x, A' = some x → w.heap.size ≤ x.block) := by
  obtain ⟨i0, hi, hz0, hz1, hz2⟩ := info_parts info33
  have HI0 := Lib.hid hi
  have HZ0 := Lib.hid hz0
  have HZ1 := Lib.hid hz1
  have HZ2 := Lib.hid hz2
  clear hi hz0 hz1 hz2
  obtain ⟨hc0, hc1⟩ := hc
  obtain ⟨b, o, rfl⟩ := hA.head ha
  have hx := hwf i ha
  obtain ⟨hx0, hx1⟩ := hx
  obtain ⟨hv0, hv1⟩ := hv
  unfold xV
  obtain ⟨W3, hW3⟩ : ∃ W3, W3 = (trioW w (some ⟨b, o, none⟩) n cap c 2 i old v).alloc (.cells #[] 33) := ⟨_, rfl⟩
  have hb3 : Below w.heap.size w W3 := by rw [hW3]; exact (trio_below w (some ⟨b, o, none⟩) n cap c 2 i old v).alloc (by rw [trio_size]; omega) _
  have hs3 : W3.heap.size = w.heap.size + 1 + 1 + 1 + 1 := by rw [hW3, World.size_alloc, trio_size]
  have ht3 : Trio W3 w.heap.size (some ⟨b, o, none⟩) n cap c 2 i old v := by rw [hW3]; exact (Trio.new w (some ⟨b, o, none⟩) n cap c 2 i old v).keep ((Below.refl _ _).alloc (Nat.le_refl _) _)
  have ho3 : W3.ownsRow (w.heap.size + 1 + 1 + 1) 33 1 (.slice (some ⟨w.heap.size + 1 + 1 + 1, 0, none⟩) 0 0) 0 [] := by
    rw [hW3, ← trio_size w (some ⟨b, o, none⟩) n cap c 2 i old v]
    exact World.ownsRow_lit _ #[] 0 (Nat.le_refl _) (by decide) rfl
  have hn3 := news_of (hA.keep hb3)
  have HW3 := Lib.hid hW3
  have HB3 := Lib.hid hb3
  have HS3 := Lib.hid hs3
  have HT3 := Lib.hid ht3
  have HO3 := Lib.hid ho3
  have HN3 := Lib.hid hn3
  have HFIN := Lib.hid (fun A' (d' : Nat) W (h : Us W A' n (setF f i (afterS 2 old v (f i)))) => h)
  simp only [afterS] at HFIN
  obtain ⟨x, hxf⟩ : ∃ x, x = f i := ⟨_, rfl⟩
  have HX := Lib.hid hxf
  try rw [← hxf] at HFIN
  rw [← hxf] at hx0 hx1 ⊢
  have z0 := ht3.m0
  rw [hW3] at z0
  unfold trioW at HW3 z0
  clear hW3 hb3 hs3 ht3 ho3 hn3 hA hwf hxf
  go_enter Tryd.func23, Tryd.ntmps23
  go_wp2_with (at_builtin; (refine wpList_append_own _ rfl _ _ 27 rfl (w.heap.size + 1 + 1 + 1) 33 i0 (.int .u32 0) 1 4 Tryd.underlying27 HI0.out HZ0.out HZ1.out HZ2.out rfl (by decide) _ 0 [] rfl (by rw [← HW3.out]; exact HO3.out) ⟨b, o, none⟩ n cap (newsU n f) rfl (by simp [newsU]) ?c1 ?c2 ?c3 ?c4 ?c5 ?_))
  case c1 => rw [← HW3.out]; exact HN3.out
  case c2 => intro u hu; obtain ⟨j, hj⟩ := List.getElem?_of_mem hu; obtain ⟨_, rfl⟩ := newsU_at hj; rfl
  case c3 => unfold maxLen; omega
  case c4 => omega
  case c5 => rw [← HW3.out, HS3.out]; omega
  intro v1 w9 hown1 hgrow1 _
  rw [← HW3.out] at hgrow1
  have hs3 := HS3.out
  obtain ⟨g, d, rfl, hg1, hg2, hus, hfz⟩ := own_us hown1 (by omega)
  have hb9 : Below w.heap.size w w9 := HB3.out.grown hgrow1 HB3.out.size (fun k hk => by have : k = w.heap.size + 1 + 1 + 1 := by simpa [Value.ownBlock] using hk.symm
                                                                                         omega)
  have ht9 := HT3.out.same (W' := w9) (fun k hk => hgrow1.block k (by omega) (fun e => by have : k = w.heap.size + 1 + 1 + 1 := by simpa [Value.ownBlock] using e
                                                                                          omega))
  have q0 := hus.cell ha
  rw [Nat.zero_add] at q0
  have qf := hfz i
  have m1 := ht9.m1
  have x0 := ht9.x0
  have x1 := ht9.x1
  have x2 := ht9.x2
  have x3 := ht9.x3
  have r0 := ht9.r0
  have r1 := ht9.r1
  have rf := ht9.fz 0
  have rg := ht9.fz 1
  rw [← HX.out] at q0
  have HUS := Lib.hid hus
  have HB9 := Lib.hid hb9
  have n1 : g ≠ w.heap.size := by omega
  have n2 : g ≠ w.heap.size + 1 := by omega
  have n3 : g ≠ w.heap.size + 1 + 1 := by omega
  have n4 : w.heap.size + 1 + 1 ≠ g := by omega
  clear hus hb9 ht9 hfz hown1 hgrow1 hs3 z0

  by_cases e : x = old
  · subst e
    go_wp2_with fail
    refine bodyPost_ret (v := .tuple #[.agg #[.slice (some ⟨g, 0, none⟩) n d, .int .i64 (c + 1)], .int .u32 x, .int .i64 0]) (by simp [results, Tryd.results23, go_sem, r0, r1]) rfl ?_
    first
      | exact ⟨some ⟨g, 0, none⟩, d, rfl, (by rw [show afterS 2 x v x = v from if_pos rfl]; exact ((HUS.out.set0 ha _).other n4 _).other n4 _), (((HB9.out.setCell (by simp; omega) _).setCell (by simp; omega) _).setCell (by simp; omega) _), (fun x e => by obtain rfl := Option.some.inj e; show w.heap.size ≤ g; omega)⟩
      | exact ⟨some ⟨g, 0, none⟩, ⟨d, rfl⟩, (by rw [show afterS 2 x v x = v from if_pos rfl]; exact ((HUS.out.set0 ha _).other n4 _).other n4 _), (((HB9.out.setCell (by simp; omega) _).setCell (by simp; omega) _).setCell (by simp; omega) _), (fun x e => by obtain rfl := Option.some.inj e; show w.heap.size ≤ g; omega)⟩
  · go_wp2_with fail
    refine bodyPost_ret (v := .tuple #[.agg #[.slice (some ⟨g, 0, none⟩) n d, .int .i64 (c + 1)], .int .u32 x, .int .i64 0]) (by simp [results, Tryd.results23, go_sem, r0, r1]) rfl ?_
    first
      | exact ⟨some ⟨g, 0, none⟩, d, rfl, (by rw [show afterS 2 old v x = x from if_neg e]; exact ((HUS.out.self i x HX.out).other n4 _).other n4 _), ((HB9.out.setCell (by simp; omega) _).setCell (by simp; omega) _), (fun x e => by obtain rfl := Option.some.inj e; show w.heap.size ≤ g; omega)⟩
      | exact ⟨some ⟨g, 0, none⟩, ⟨d, rfl⟩, (by rw [show afterS 2 old v x = x from if_neg e]; exact ((HUS.out.self i x HX.out).other n4 _).other n4 _), ((HB9.out.setCell (by simp; omega) _).setCell (by simp; omega) _), (fun x e => by obtain rfl := Option.some.inj e; show w.heap.size ≤ g; omega)⟩


set_option maxHeartbeats 4000000 in
set_option maxRecDepth 100000 in
theorem do3_yes (old v : Int) (i : Nat) (A : Option Addr) (n cap : Nat) (f : Nat → Int) (c : Int) (w : World) (hA : Us w A n f) (hn : n ≤ 4096) (ha : i < n) (hc : 0 ≤ c ∧ c ≤ 1000) (hwf : WfF n f) (hv : 0 ≤ v ∧ v < 4294967296) :
    Calls Tryd.prog 23 #[.agg #[.slice A n cap, .int .i64 c], xV 3 i old v] w fun e w' => ∃ A' d', e = .returned (.tuple #[.agg #[.slice A' n d', .int .i64 (c + 1)], .int .u32 (f i), .int .i64 0]) ∧ Us w' A' n (setF f i (afterS 3 old v (f i))) ∧ Below w.heap.size w w' ∧ (∀ x, A' = some x → w.heap.size ≤ x.block) := by
  obtain ⟨i0, hi, hz0, hz1, hz2⟩ := info_parts info33
  have HI0 := Lib.hid hi
  have HZ0 := Lib.hid hz0
  have HZ1 := Lib.hid hz1
  have HZ2 := Lib.hid hz2
  clear hi hz0 hz1 hz2
  obtain ⟨hc0, hc1⟩ := hc
  obtain ⟨b, o, rfl⟩ := hA.head ha
  have hx := hwf i ha
  obtain ⟨hx0, hx1⟩ := hx
  obtain ⟨hv0, hv1⟩ := hv
  unfold xV
  obtain ⟨W3, hW3⟩ : ∃ W3, W3 = (trioW w (some ⟨b, o, none⟩) n cap c 3 i old v).alloc (.cells #[] 33) := ⟨_, rfl⟩
  have hb3 : Below w.heap.size w W3 := by rw [hW3]; exact (trio_below w (some ⟨b, o, none⟩) n cap c 3 i old v).alloc (by rw [trio_size]; omega) _
  have hs3 : W3.heap.size = w.heap.size + 1 + 1 + 1 + 1 := by rw [hW3, World.size_alloc, trio_size]
  have ht3 : Trio W3 w.heap.size (some ⟨b, o, none⟩) n cap c 3 i old v := by rw [hW3]; exact (Trio.new w (some ⟨b, o, none⟩) n cap c 3 i old v).keep ((Below.refl _ _).alloc (Nat.le_refl _) _)
  have ho3 : W3.ownsRow (w.heap.size + 1 + 1 + 1) 33 1 (.slice (some ⟨w.heap.size + 1 + 1 + 1, 0, none⟩) 0 0) 0 [] := by
    rw [hW3, ← trio_size w (some ⟨b, o, none⟩) n cap c 3 i old v]
    exact World.ownsRow_lit _ #[] 0 (Nat.le_refl _) (by decide) rfl
  have hn3 := news_of (hA.keep hb3)
  have HW3 := Lib.hid hW3
  have HB3 := Lib.hid hb3
  have HS3 := Lib.hid hs3
  have HT3 := Lib.hid ht3
  have HO3 := Lib.hid ho3
  have HN3 := Lib.hid hn3
  have HFIN := Lib.hid (fun A' (d' : Nat) W (h : Us W A' n (setF f i (afterS 3 old v (f i)))) => h)
  simp only [afterS] at HFIN
  obtain ⟨x, hxf⟩ : ∃ x, x = f i := ⟨_, rfl⟩
  have HX := Lib.hid hxf
  try rw [← hxf] at HFIN
  rw [← hxf] at hx0 hx1 ⊢
  have z0 := ht3.m0
  rw [hW3] at z0
  unfold trioW at HW3 z0
  clear hW3 hb3 hs3 ht3 ho3 hn3 hA hwf hxf
  simp only [afterS, IntKind.wrap_u32']
  go_enter Tryd.func23, Tryd.ntmps23
  go_wp2_with (at_builtin; (refine wpList_append_own _ rfl _ _ 27 rfl (w.heap.size + 1 + 1 + 1) 33 i0 (.int .u32 0) 1 4 Tryd.underlying27 HI0.out HZ0.out HZ1.out HZ2.out rfl (by decide) _ 0 [] rfl (by rw [← HW3.out]; exact HO3.out) ⟨b, o, none⟩ n cap (newsU n f) rfl (by simp [newsU]) ?c1 ?c2 ?c3 ?c4 ?c5 ?_))
  case c1 => rw [← HW3.out]; exact HN3.out
  case c2 => intro u hu; obtain ⟨j, hj⟩ := List.getElem?_of_mem hu; obtain ⟨_, rfl⟩ := newsU_at hj; rfl
  case c3 => unfold maxLen; omega
  case c4 => omega
  case c5 => rw [← HW3.out, HS3.out]; omega
  intro v1 w9 hown1 hgrow1 _
  rw [← HW3.out] at hgrow1
  have hs3 := HS3.out
  obtain ⟨g, d, rfl, hg1, hg2, hus, hfz⟩ := own_us hown1 (by omega)
  have hb9 : Below w.heap.size w w9 := HB3.out.grown hgrow1 HB3.out.size (fun k hk => by have : k = w.heap.size + 1 + 1 + 1 := by simpa [Value.ownBlock] using hk.symm
                                                                                         omega)
  have ht9 := HT3.out.same (W' := w9) (fun k hk => hgrow1.block k (by omega) (fun e => by have : k = w.heap.size + 1 + 1 + 1 := by simpa [Value.ownBlock] using e
                                                                                          omega))
  have q0 := hus.cell ha
  rw [Nat.zero_add] at q0
  have qf := hfz i
  have m1 := ht9.m1
  have x0 := ht9.x0
  have x1 := ht9.x1
  have x2 := ht9.x2
  have x3 := ht9.x3
  have r0 := ht9.r0
  have r1 := ht9.r1
  have rf := ht9.fz 0
  have rg := ht9.fz 1
  rw [← HX.out] at q0
  have HUS := Lib.hid hus
  have HB9 := Lib.hid hb9
  have n1 : g ≠ w.heap.size := by omega
  have n2 : g ≠ w.heap.size + 1 := by omega
  have n3 : g ≠ w.heap.size + 1 + 1 := by omega
  have n4 : w.heap.size + 1 + 1 ≠ g := by omega
  clear hus hb9 ht9 hfz hown1 hgrow1 hs3 z0

  go_wp2_with fail
  refine bodyPost_ret (v := .tuple #[.agg #[.slice (some ⟨g, 0, none⟩) n d, .int .i64 (c + 1)], .int .u32 x, .int .i64 0]) (by simp [results, Tryd.results23, go_sem, r0, r1]) rfl ?_
  first
    | exact ⟨some ⟨g, 0, none⟩, d, rfl, ((HUS.out.set0 ha _).other n4 _).other n4 _, (((HB9.out.setCell (by simp; omega) _).setCell (by simp; omega) _).setCell (by simp; omega) _), (fun x e => by obtain rfl := Option.some.inj e; show w.heap.size ≤ g; omega)⟩
    | exact ⟨some ⟨g, 0, none⟩, ⟨d, rfl⟩, ((HUS.out.set0 ha _).other n4 _).other n4 _, (((HB9.out.setCell (by simp; omega) _).setCell (by simp; omega) _).setCell (by simp; omega) _), (fun x e => by obtain rfl := Option.some.inj e; show w.heap.size ≤ g; omega)⟩


set_option maxHeartbeats 4000000 in
set_option maxRecDepth 100000 in
theorem do4_yes (old v : Int) (i : Nat) (A : Option Addr) (n cap : Nat) (f : Nat → Int) (c : Int) (w : World) (hA : Us w A n f) (hn : n ≤ 4096) (ha : i < n) (hc : 0 ≤ c ∧ c ≤ 1000) (hwf : WfF n f) (hv : 0 ≤ v ∧ v < 4294967296) :
    Calls Tryd.prog 23 #[.agg #[.slice A n cap, .int .i64 c], xV 4 i old v] w fun e w' => ∃ A' d', e = .returned (.tuple #[.agg #[.slice A' n d', .int .i64 (c + 1)], .int .u32 (f i), .int .i64 0]) ∧ Us w' A' n (setF f i (afterS 4 old v (f i))) ∧ Below w.heap.size w w' ∧ (∀ x, A' = some x → w.heap.size ≤ x.block) := by
  obtain ⟨i0, hi, hz0, hz1, hz2⟩ := info_parts info33
  have HI0 := Lib.hid hi
  have HZ0 := Lib.hid hz0
  have HZ1 := Lib.hid hz1
  have HZ2 := Lib.hid hz2
  clear hi hz0 hz1 hz2
  obtain ⟨hc0, hc1⟩ := hc
  obtain ⟨b, o, rfl⟩ := hA.head ha
  have hx := hwf i ha
  obtain ⟨hx0, hx1⟩ := hx
  obtain ⟨hv0, hv1⟩ := hv
  unfold xV
  obtain ⟨W3, hW3⟩ : ∃ W3, W3 = (trioW w (some ⟨b, o, none⟩) n cap c 4 i old v).alloc (.cells #[] 33) := ⟨_, rfl⟩
  have hb3 : Below w.heap.size w W3 := by rw [hW3]; exact (trio_below w (some ⟨b, o, none⟩) n cap c 4 i old v).alloc (by rw [trio_size]; omega) _
  have hs3 : W3.heap.size = w.heap.size + 1 + 1 + 1 + 1 := by rw [hW3, World.size_alloc, trio_size]
  have ht3 : Trio W3 w.heap.size (some ⟨b, o, none⟩) n cap c 4 i old v := by rw [hW3]; exact (Trio.new w (some ⟨b, o, none⟩) n cap c 4 i old v).keep ((Below.refl _ _).alloc (Nat.le_refl _) _)
  have ho3 : W3.ownsRow (w.heap.size + 1 + 1 + 1) 33 1 (.slice (some ⟨w.heap.size + 1 + 1 + 1, 0, none⟩) 0 0) 0 [] := by
    rw [hW3, ← trio_size w (some ⟨b, o, none⟩) n cap c 4 i old v]
    exact World.ownsRow_lit _ #[] 0 (Nat.le_refl _) (by decide) rfl
  have hn3 := news_of (hA.keep hb3)
  have HW3 := Lib.hid hW3
  have HB3 := Lib.hid hb3
  have HS3 := Lib.hid hs3
  have HT3 := Lib.hid ht3
  have HO3 := Lib.hid ho3
  have HN3 := Lib.hid hn3
  have HFIN := Lib.hid (fun A' (d' : Nat) W (h : Us W A' n (setF f i (afterS 4 old v (f i)))) => h)
  simp only [afterS] at HFIN
  obtain ⟨x, hxf⟩ : ∃ x, x = f i := ⟨_, rfl⟩
  have HX := Lib.hid hxf
  try rw [← hxf] at HFIN
  rw [← hxf] at hx0 hx1 ⊢
  have z0 := ht3.m0
  rw [hW3] at z0
  unfold trioW at HW3 z0
  clear hW3 hb3 hs3 ht3 ho3 hn3 hA hwf hxf
  have HOR := Lib.hid (fun W => or_int x v W hx0 hx1 hv0 hv1)
  simp only [afterS]
  obtain ⟨y, hy⟩ : ∃ y, y = bits .or .u32 x v := ⟨_, rfl⟩
  rw [← hy] at HOR ⊢
  clear hy
  go_enter Tryd.func23, Tryd.ntmps23
  go_wp2_with (at_builtin; (refine wpList_append_own _ rfl _ _ 27 rfl (w.heap.size + 1 + 1 + 1) 33 i0 (.int .u32 0) 1 4 Tryd.underlying27 HI0.out HZ0.out HZ1.out HZ2.out rfl (by decide) _ 0 [] rfl (by rw [← HW3.out]; exact HO3.out) ⟨b, o, none⟩ n cap (newsU n f) rfl (by simp [newsU]) ?c1 ?c2 ?c3 ?c4 ?c5 ?_))
  case c1 => rw [← HW3.out]; exact HN3.out
  case c2 => intro u hu; obtain ⟨j, hj⟩ := List.getElem?_of_mem hu; obtain ⟨_, rfl⟩ := newsU_at hj; rfl
  case c3 => unfold maxLen; omega
  case c4 => omega
  case c5 => rw [← HW3.out, HS3.out]; omega
  intro v1 w9 hown1 hgrow1 _
  rw [← HW3.out] at hgrow1
  have hs3 := HS3.out
  obtain ⟨g, d, rfl, hg1, hg2, hus, hfz⟩ := own_us hown1 (by omega)
  have hb9 : Below w.heap.size w w9 := HB3.out.grown hgrow1 HB3.out.size (fun k hk => by have : k = w.heap.size + 1 + 1 + 1 := by simpa [Value.ownBlock] using hk.symm
                                                                                         omega)
  have ht9 := HT3.out.same (W' := w9) (fun k hk => hgrow1.block k (by omega) (fun e => by have : k = w.heap.size + 1 + 1 + 1 := by simpa [Value.ownBlock] using e
                                                                                          omega))
  have q0 := hus.cell ha
  rw [Nat.zero_add] at q0
  have qf := hfz i
  have m1 := ht9.m1
  have x0 := ht9.x0
  have x1 := ht9.x1
  have x2 := ht9.x2
  have x3 := ht9.x3
  have r0 := ht9.r0
  have r1 := ht9.r1
  have rf := ht9.fz 0
  have rg := ht9.fz 1
  rw [← HX.out] at q0
  have HUS := Lib.hid hus
  have HB9 := Lib.hid hb9
  have n1 : g ≠ w.heap.size := by omega
  have n2 : g ≠ w.heap.size + 1 := by omega
  have n3 : g ≠ w.heap.size + 1 + 1 := by omega
  have n4 : w.heap.size + 1 + 1 ≠ g := by omega
  clear hus hb9 ht9 hfz hown1 hgrow1 hs3 z0

  go_wp2_with fail
  go_region_held3 (fun w' => w'.cell? ⟨w.heap.size + 1, 1, none⟩ = some (.int .i64 i) ∧ w'.cell? ⟨w.heap.size + 1, 3, none⟩ = some (.int .u32 v))
    (first | exact ⟨x1, x3⟩ | go_keep)
    (first
      | (go_at_call 25
         refine (HOR.out _).mono ?_
         rintro e w' ⟨rfl, rfl⟩))
  go_wp2_with fail
  refine bodyPost_ret (v := .tuple #[.agg #[.slice (some ⟨g, 0, none⟩) n d, .int .i64 (c + 1)], .int .u32 x, .int .i64 0]) (by simp [results, Tryd.results23, go_sem, r0, r1]) rfl ?_
  first
    | exact ⟨some ⟨g, 0, none⟩, d, rfl, Us.drew (((HUS.out.set0 ha _).other n4 _).other n4 _), ((((HB9.out.setCell (by simp; omega) _).setCell (by simp; omega) _).setCell (by simp; omega) _)).drew, (fun x e => by obtain rfl := Option.some.inj e; show w.heap.size ≤ g; omega)⟩
    | exact ⟨some ⟨g, 0, none⟩, ⟨d, rfl⟩, Us.drew (((HUS.out.set0 ha _).other n4 _).other n4 _), ((((HB9.out.setCell (by simp; omega) _).setCell (by simp; omega) _).setCell (by simp; omega) _)).drew, (fun x e => by obtain rfl := Option.some.inj e; show w.heap.size ≤ g; omega)⟩


set_option maxHeartbeats 4000000 in
set_option maxRecDepth 100000 in
theorem do5_yes (old v : Int) (i : Nat) (A : Option Addr) (n cap : Nat) (f : Nat → Int) (c : Int) (w : World) (hA : Us w A n f) (hn : n ≤ 4096) (ha : i < n) (hc : 0 ≤ c ∧ c ≤ 1000) (hwf : WfF n f) (hv : 0 ≤ v ∧ v < 4294967296) :
    Calls Tryd.prog 23 #[.agg #[.slice A n cap, .int .i64 c], xV 5 i old v] w fun e w' => ∃ A' d', e = .returned (.tuple #[.agg #[.slice A' n d', .int .i64 (c + 1)], .int .u32 (f i), .int .i64 0]) ∧ Us w' A' n (setF f i (afterS 5 old v (f i))) ∧ Below w.heap.size w w' ∧ (∀ x, A' = some x → w.heap.size ≤ x.block) := by
  obtain ⟨i0, hi, hz0, hz1, hz2⟩ := info_parts info33
  have HI0 := Lib.hid hi
  have HZ0 := Lib.hid hz0
  have HZ1 := Lib.hid hz1
  have HZ2 := Lib.hid hz2
  clear hi hz0 hz1 hz2
  obtain ⟨hc0, hc1⟩ := hc
  obtain ⟨b, o, rfl⟩ := hA.head ha
  have hx := hwf i ha
  obtain ⟨hx0, hx1⟩ := hx
  obtain ⟨hv0, hv1⟩ := hv
  unfold xV
  obtain ⟨W3, hW3⟩ : ∃ W3, W3 = (trioW w (some ⟨b, o, none⟩) n cap c 5 i old v).alloc (.cells #[] 33) := ⟨_, rfl⟩
  have hb3 : Below w.heap.size w W3 := by rw [hW3]; exact (trio_below w (some ⟨b, o, none⟩) n cap c 5 i old v).alloc (by rw [trio_size]; omega) _
  have hs3 : W3.heap.size = w.heap.size + 1 + 1 + 1 + 1 := by rw [hW3, World.size_alloc, trio_size]
  have ht3 : Trio W3 w.heap.size (some ⟨b, o, none⟩) n cap c 5 i old v := by rw [hW3]; exact (Trio.new w (some ⟨b, o, none⟩) n cap c 5 i old v).keep ((Below.refl _ _).alloc (Nat.le_refl _) _)
  have ho3 : W3.ownsRow (w.heap.size + 1 + 1 + 1) 33 1 (.slice (some ⟨w.heap.size + 1 + 1 + 1, 0, none⟩) 0 0) 0 [] := by
    rw [hW3, ← trio_size w (some ⟨b, o, none⟩) n cap c 5 i old v]
    exact World.ownsRow_lit _ #[] 0 (Nat.le_refl _) (by decide) rfl
  have hn3 := news_of (hA.keep hb3)
  have HW3 := Lib.hid hW3
  have HB3 := Lib.hid hb3
  have HS3 := Lib.hid hs3
  have HT3 := Lib.hid ht3
  have HO3 := Lib.hid ho3
  have HN3 := Lib.hid hn3
  have HFIN := Lib.hid (fun A' (d' : Nat) W (h : Us W A' n (setF f i (afterS 5 old v (f i)))) => h)
  simp only [afterS] at HFIN
  obtain ⟨x, hxf⟩ : ∃ x, x = f i := ⟨_, rfl⟩
  have HX := Lib.hid hxf
  try rw [← hxf] at HFIN
  rw [← hxf] at hx0 hx1 ⊢
  have z0 := ht3.m0
  rw [hW3] at z0
  unfold trioW at HW3 z0
  clear hW3 hb3 hs3 ht3 ho3 hn3 hA hwf hxf
  go_enter Tryd.func23, Tryd.ntmps23
  go_wp2_with (at_builtin; (refine wpList_append_own _ rfl _ _ 27 rfl (w.heap.size + 1 + 1 + 1) 33 i0 (.int .u32 0) 1 4 Tryd.underlying27 HI0.out HZ0.out HZ1.out HZ2.out rfl (by decide) _ 0 [] rfl (by rw [← HW3.out]; exact HO3.out) ⟨b, o, none⟩ n cap (newsU n f) rfl (by simp [newsU]) ?c1 ?c2 ?c3 ?c4 ?c5 ?_))
  case c1 => rw [← HW3.out]; exact HN3.out
  case c2 => intro u hu; obtain ⟨j, hj⟩ := List.getElem?_of_mem hu; obtain ⟨_, rfl⟩ := newsU_at hj; rfl
  case c3 => unfold maxLen; omega
  case c4 => omega
  case c5 => rw [← HW3.out, HS3.out]; omega
  intro v1 w9 hown1 hgrow1 _
  rw [← HW3.out] at hgrow1
  have hs3 := HS3.out
  obtain ⟨g, d, rfl, hg1, hg2, hus, hfz⟩ := own_us hown1 (by omega)
  have hb9 : Below w.heap.size w w9 := HB3.out.grown hgrow1 HB3.out.size (fun k hk => by have : k = w.heap.size + 1 + 1 + 1 := by simpa [Value.ownBlock] using hk.symm
                                                                                         omega)
  have ht9 := HT3.out.same (W' := w9) (fun k hk => hgrow1.block k (by omega) (fun e => by have : k = w.heap.size + 1 + 1 + 1 := by simpa [Value.ownBlock] using e
                                                                                          omega))
  have q0 := hus.cell ha
  rw [Nat.zero_add] at q0
  have qf := hfz i
  have m1 := ht9.m1
  have x0 := ht9.x0
  have x1 := ht9.x1
  have x2 := ht9.x2
  have x3 := ht9.x3
  have r0 := ht9.r0
  have r1 := ht9.r1
  have rf := ht9.fz 0
  have rg := ht9.fz 1
  rw [← HX.out] at q0
  have HUS := Lib.hid hus
  have HB9 := Lib.hid hb9
  have n1 : g ≠ w.heap.size := by omega
  have n2 : g ≠ w.heap.size + 1 := by omega
  have n3 : g ≠ w.heap.size + 1 + 1 := by omega
  have n4 : w.heap.size + 1 + 1 ≠ g := by omega
  clear hus hb9 ht9 hfz hown1 hgrow1 hs3 z0

  go_wp2_with fail
  refine bodyPost_ret (v := .tuple #[.agg #[.slice (some ⟨g, 0, none⟩) n d, .int .i64 (c + 1)], .int .u32 x, .int .i64 0]) (by simp [results, Tryd.results23, go_sem, r0, r1]) rfl ?_
  first
    | exact ⟨some ⟨g, 0, none⟩, d, rfl, ((HUS.out.set0 ha _).other n4 _).other n4 _, (((HB9.out.setCell (by simp; omega) _).setCell (by simp; omega) _).setCell (by simp; omega) _), (fun x e => by obtain rfl := Option.some.inj e; show w.heap.size ≤ g; omega)⟩
    | exact ⟨some ⟨g, 0, none⟩, ⟨d, rfl⟩, ((HUS.out.set0 ha _).other n4 _).other n4 _, (((HB9.out.setCell (by simp; omega) _).setCell (by simp; omega) _).setCell (by simp; omega) _), (fun x e => by obtain rfl := Option.some.inj e; show w.heap.size ≤ g; omega)⟩


theorem wf_set {n : Nat} {f : Nat → Int} {i : Nat} {v : Int} (h : WfF n f) (hv : 0 ≤ v ∧ v < 4294967296) : WfF n (setF f i v) := fun j hj => by
  unfold setF
  split
  · exact hv
  · exact h j hj
theorem after_wf {K : Nat} {old v was : Int} (hv : 0 ≤ v ∧ v < 4294967296) (hw : 0 ≤ was ∧ was < 4294967296) : 0 ≤ afterS K old v was ∧ afterS K old v was < 4294967296 := by
  unfold afterS
  split
  · exact hw
  · exact hv
  · split
    · exact hv
    · exact hw
  · rw [IntKind.wrap_u32']; omega
  · obtain ⟨x, rfl⟩ := Int.eq_ofNat_of_zero_le hw.1
    obtain ⟨y, rfl⟩ := Int.eq_ofNat_of_zero_le hv.1
    rw [u32_or_nat x y (by omega) (by omega)]
    have : x ||| y < 2 ^ 32 := Nat.or_lt_two_pow (by omega) (by omega)
    omega
  · omega
theorem step_wf {K : Nat} {at' old v : Int} {n : Nat} {f : Nat → Int} (h : WfF n f) (hv : 0 ≤ v ∧ v < 4294967296) : WfF n (stepF K at' old v n f) := by
  unfold stepF inN
  split
  · rename_i e
    simp at e
    exact wf_set h (after_wf hv (h _ (by omega)))
  · exact h
def wasS (n : Nat) (at' : Int) (f : Nat → Int) : Int := if inN n at' then f at'.toNat else 0
/-- A use of the given memory. -/
theorem do_any (K : Nat) (at' old v : Int) (A : Option Addr) (n cap : Nat) (f : Nat → Int) (c : Int) (w : World) (hK : K ≤ 5) (hA : Us w A n f) (hn : n ≤ 4096) (hc : 0 ≤ c ∧ c ≤ 1000) (hwf : WfF n f) (hv : 0 ≤ v ∧ v < 4294967296) :
    Calls Tryd.prog 23 #[.agg #[.slice A n cap, .int .i64 c], xV K at' old v] w fun e w' => ∃ A' d', e = .returned (.tuple #[.agg #[.slice A' n d', .int .i64 (stepC n at' c)], .int .u32 (wasS n at' f), .int .i64 (errS n at')]) ∧ Us w' A' n (stepF K at' old v n f) ∧ Below w.heap.size w w' ∧ (A' = A ∨ ∀ x, A' = some x → w.heap.size ≤ x.block) := by
  unfold wasS errS stepF stepC inN
  by_cases h : 0 ≤ at' ∧ at' < n
  · simp only [h, and_self, decide_true, if_true]
    obtain ⟨i, rfl⟩ := Int.eq_ofNat_of_zero_le h.1
    rw [show ((i : Int)).toNat = i by omega]
    have hi : i < n := by omega
    match K, hK with
    | 0, _ => exact (do0_yes old v i A n cap f c w hA hn hi hc hwf hv).mono fun _ _ ⟨A', d', e, h1, h2, h3⟩ => ⟨A', d', e, h1, h2, .inr h3⟩
    | 1, _ => exact (do1_yes old v i A n cap f c w hA hn hi hc hwf hv).mono fun _ _ ⟨A', d', e, h1, h2, h3⟩ => ⟨A', d', e, h1, h2, .inr h3⟩
    | 2, _ => exact (do2_yes old v i A n cap f c w hA hn hi hc hwf hv).mono fun _ _ ⟨A', d', e, h1, h2, h3⟩ => ⟨A', d', e, h1, h2, .inr h3⟩
    | 3, _ => exact (do3_yes old v i A n cap f c w hA hn hi hc hwf hv).mono fun _ _ ⟨A', d', e, h1, h2, h3⟩ => ⟨A', d', e, h1, h2, .inr h3⟩
    | 4, _ => exact (do4_yes old v i A n cap f c w hA hn hi hc hwf hv).mono fun _ _ ⟨A', d', e, h1, h2, h3⟩ => ⟨A', d', e, h1, h2, .inr h3⟩
    | 5, _ => exact (do5_yes old v i A n cap f c w hA hn hi hc hwf hv).mono fun _ _ ⟨A', d', e, h1, h2, h3⟩ => ⟨A', d', e, h1, h2, .inr h3⟩
  · simp only [h, decide_false, if_false, Bool.false_eq_true]
    exact (do_no K at' old v A n cap c w hn h).mono fun _ _ ⟨e, hB⟩ => ⟨A, cap, e, hA.keep hB, hB, .inl rfl⟩

end Go.Proofs.YtdicmalfnfpmmaaDoor