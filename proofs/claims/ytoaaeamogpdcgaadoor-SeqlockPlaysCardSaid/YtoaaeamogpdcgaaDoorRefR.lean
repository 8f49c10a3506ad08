/-
  The document's answer: a reader's step; how many versions are written; how many words there may be.
-/
import Derived.Test.YtoaaeamogpdcgaaDoorRefW
import Derived.Deep.AppendLies
import Derived.Deep.RegionLaw
namespace Go.Proofs.YtoaaeamogpdcgaaDoor
open Go.RowKit

/-- A reader of the document's. -/
structure Dr where
  at' : Int
  n : Int
  next : Int
  cn : Int
  pL : Option Addr
  nL : Nat
  cL : Nat
  got : Bool
  done : Bool
  tr : Int
def drV (d : Dr) : Value := .agg #[.int .i64 d.at', .int .i64 d.n, .int .i64 d.next, .int .u32 d.cn, .slice d.pL d.nL d.cL, .bool d.got, .bool d.done, .int .i64 d.tr]
/-- What a step leaves. -/
def RdGo (d' : Dr) (w : World) (e : Ending) (w' : World) : Prop := e = .returned (drV d') ∧ Below w.heap.size w w'
/-- The word that it looks at. -/
def Dr.wh (d : Dr) : Int := if 1 ≤ d.next ∧ d.next ≤ d.n then d.at' + d.next else d.at'
set_option maxHeartbeats 4000000 in
set_option maxRecDepth 100000 in
theorem dr_miss (d : Dr) (U : Option Addr) (cu : Nat) (w : World) (hx : ¬ (0 ≤ d.wh ∧ d.wh < 40)) (ha : -1000 ≤ d.at' ∧ d.at' ≤ 1000) (hn : 0 ≤ d.next ∧ d.next ≤ 1000) (hN : 1 ≤ d.n ∧ d.n ≤ 32) (hg : d.got = false) :
    Calls Tryd.prog 18 #[drV d, .slice U 40 cu] w fun e w' => RdGo { d with done := true } w e w' := by
  obtain ⟨a, n, nx, cn, pL, nL, cL, got, done, tr⟩ := d
  have hg : got = false := hg
  subst hg
  unfold Dr.wh at hx
  simp only at hx ha hn hN
  obtain ⟨ha1, ha2⟩ := ha
  obtain ⟨hn1, hn2⟩ := hn
  unfold RdGo
  simp only [drV]
  by_cases h1 : 1 ≤ nx
  · by_cases h2 : nx ≤ n
    · rw [if_pos ⟨h1, h2⟩] at hx
      have hsum : IntKind.i64.wrap (a + nx) = a + nx := IntWalk.i64_in _ (by omega)
      by_cases h3 : a + nx < 0
      · clear hx
        go_enter Tryd.func18, Tryd.ntmps18
        go_wp2_with fail
        refine bodyPost_ret (v := .agg #[.int .i64 a, .int .i64 n, .int .i64 nx, .int .u32 cn, .slice pL nL cL, .bool false, .bool true, .int .i64 tr]) (by simp [results, Tryd.results18, go_sem]) rfl ⟨rfl, ?_⟩
        exact ((Below.refl _ _).alloc (Nat.le_refl _) _).alloc (by simp) _
      · have h4 : 40 ≤ a + nx := by omega
        clear hx
        go_enter Tryd.func18, Tryd.ntmps18
        go_wp2_with fail
        refine bodyPost_ret (v := .agg #[.int .i64 a, .int .i64 n, .int .i64 nx, .int .u32 cn, .slice pL nL cL, .bool false, .bool true, .int .i64 tr]) (by simp [results, Tryd.results18, go_sem]) rfl ⟨rfl, ?_⟩
        exact ((Below.refl _ _).alloc (Nat.le_refl _) _).alloc (by simp) _
    · rw [if_neg (by omega)] at hx
      by_cases h3 : a < 0
      · clear hx
        go_enter Tryd.func18, Tryd.ntmps18
        go_wp2_with fail
        refine bodyPost_ret (v := .agg #[.int .i64 a, .int .i64 n, .int .i64 nx, .int .u32 cn, .slice pL nL cL, .bool false, .bool true, .int .i64 tr]) (by simp [results, Tryd.results18, go_sem]) rfl ⟨rfl, ?_⟩
        exact ((Below.refl _ _).alloc (Nat.le_refl _) _).alloc (by simp) _
      · have h4 : 40 ≤ a := by omega
        clear hx
        go_enter Tryd.func18, Tryd.ntmps18
        go_wp2_with fail
        refine bodyPost_ret (v := .agg #[.int .i64 a, .int .i64 n, .int .i64 nx, .int .u32 cn, .slice pL nL cL, .bool false, .bool true, .int .i64 tr]) (by simp [results, Tryd.results18, go_sem]) rfl ⟨rfl, ?_⟩
        exact ((Below.refl _ _).alloc (Nat.le_refl _) _).alloc (by simp) _
  · rw [if_neg (by omega)] at hx
    by_cases h3 : a < 0
    · clear hx
      go_enter Tryd.func18, Tryd.ntmps18
      go_wp2_with fail
      refine bodyPost_ret (v := .agg #[.int .i64 a, .int .i64 n, .int .i64 nx, .int .u32 cn, .slice pL nL cL, .bool false, .bool true, .int .i64 tr]) (by simp [results, Tryd.results18, go_sem]) rfl ⟨rfl, ?_⟩
      exact ((Below.refl _ _).alloc (Nat.le_refl _) _).alloc (by simp) _
    · have h4 : 40 ≤ a := by omega
      clear hx
      go_enter Tryd.func18, Tryd.ntmps18
      go_wp2_with fail
      refine bodyPost_ret (v := .agg #[.int .i64 a, .int .i64 n, .int .i64 nx, .int .u32 cn, .slice pL nL cL, .bool false, .bool true, .int .i64 tr]) (by simp [results, Tryd.results18, go_sem]) rfl ⟨rfl, ?_⟩
      exact ((Below.refl _ _).alloc (Nat.le_refl _) _).alloc (by simp) _
set_option maxHeartbeats 4000000 in
set_option maxRecDepth 100000 in
theorem dr_odd (d : Dr) (U : Option Addr) (cu i : Nat) (x : Int) (w : World) (f : Nat → Int) (hU : Us w U 40 f) (hx : f i = x) (ha : d.at' = i) (hi : i < 40) (h0 : d.next = 0) (hg : d.got = false) (hN : 1 ≤ d.n ∧ d.n ≤ 32) (ht : 0 ≤ d.tr ∧ d.tr ≤ 1000) (hd : d.done = false) (hf : 0 ≤ x) (hp : x % 2 = 1) :
    Calls Tryd.prog 18 #[drV d, .slice U 40 cu] w fun e w' => RdGo d w e w' := by
  obtain ⟨a, n, nx, cn, pL, nL, cL, got, done, tr⟩ := d
  have hg : got = false := hg
  have ha : a = i := ha
  have hd : done = false := hd
  have hN : 1 ≤ n ∧ n ≤ 32 := hN
  obtain ⟨hN1, hN2⟩ := hN
  subst hg ha hd
  obtain ⟨b, o, rfl⟩ := hU.head hi
  have hc := hU.cell hi
  rw [hx] at hc
  have hi0 : (0 : Int) ≤ i := by omega
  have hi1 : (i : Int) < 40 := by omega
  have h0 : nx = 0 := h0
  subst h0
  have hz := al_cell (o := .cells #[.int .i64 i, .int .i64 n, .int .i64 0, .int .u32 cn, .slice pL nL cL, .bool false, .bool false, .int .i64 tr] 49) hc
  have hz2 := al_cell (o := .cells #[.int .i64 0, .int .i64 0, .int .i64 0, .int .u32 0, .slice none 0 0, .bool false, .bool false, .int .i64 0] 49) hz
  have hsum : IntKind.i64.wrap (tr + 1) = tr + 1 := IntWalk.i64_in _ (by have : 0 ≤ tr ∧ tr ≤ 1000 := ht; omega)
  have hb : (x.tmod 2 == 0) = false := by rw [Int.tmod_eq_emod_of_nonneg hf, hp]; rfl
  simp only [drV, RdGo]
  clear hU hf hc hz hx hp
  go_enter Tryd.func18, Tryd.ntmps18
  go_wp2_with fail
  refine bodyPost_ret (v := .agg #[.int .i64 i, .int .i64 n, .int .i64 0, .int .u32 cn, .slice pL nL cL, .bool false, .bool false, .int .i64 tr]) (by simp [results, Tryd.results18, go_sem]) rfl ⟨rfl, ?_⟩
  exact ((Below.refl _ _).alloc (Nat.le_refl _) _).alloc (by simp) _
set_option maxHeartbeats 4000000 in
set_option maxRecDepth 100000 in
theorem dr_even (d : Dr) (U : Option Addr) (cu i : Nat) (x : Int) (w : World) (f : Nat → Int) (hU : Us w U 40 f) (hx : f i = x) (ha : d.at' = i) (hi : i < 40) (h0 : d.next = 0) (hg : d.got = false) (hN : 1 ≤ d.n ∧ d.n ≤ 32) (ht : 0 ≤ d.tr ∧ d.tr ≤ 1000) (hd : d.done = false) (hf : 0 ≤ x) (hp : x % 2 = 0) :
    Calls Tryd.prog 18 #[drV d, .slice U 40 cu] w fun e w' => ∃ G, w.heap.size ≤ G ∧ RdGo { d with next := 1, cn := x, pL := some ⟨G, 0, none⟩, nL := 0, cL := 0, tr := d.tr + 1 } w e w' := by
  obtain ⟨a, n, nx, cn, pL, nL, cL, got, done, tr⟩ := d
  have hg : got = false := hg
  have ha : a = i := ha
  have hd : done = false := hd
  have hN : 1 ≤ n ∧ n ≤ 32 := hN
  obtain ⟨hN1, hN2⟩ := hN
  subst hg ha hd
  obtain ⟨b, o, rfl⟩ := hU.head hi
  have hc := hU.cell hi
  rw [hx] at hc
  have hi0 : (0 : Int) ≤ i := by omega
  have hi1 : (i : Int) < 40 := by omega
  have h0 : nx = 0 := h0
  subst h0
  have hz := al_cell (o := .cells #[.int .i64 i, .int .i64 n, .int .i64 0, .int .u32 cn, .slice pL nL cL, .bool false, .bool false, .int .i64 tr] 49) hc
  have hz2 := al_cell (o := .cells #[.int .i64 0, .int .i64 0, .int .i64 0, .int .u32 0, .slice none 0 0, .bool false, .bool false, .int .i64 0] 49) hz
  have hsum : IntKind.i64.wrap (tr + 1) = tr + 1 := IntWalk.i64_in _ (by have : 0 ≤ tr ∧ tr ≤ 1000 := ht; omega)
  have hb : (x.tmod 2 == 0) = true := by rw [Int.tmod_eq_emod_of_nonneg hf, hp]; rfl
  simp only [drV, RdGo]
  clear hU hf hc hz hx hp
  go_enter Tryd.func18, Tryd.ntmps18
  go_wp2_with fail
  refine bodyPost_ret (v := .agg #[.int .i64 i, .int .i64 n, .int .i64 1, .int .u32 x, .slice (some ⟨w.heap.size + 2, 0, none⟩) 0 0, .bool false, .bool false, .int .i64 (tr + 1)]) (by simp [results, Tryd.results18, go_sem]) rfl ⟨w.heap.size + 2, by omega, rfl, ?_⟩
  repeat (first | exact Below.refl _ _ | refine Below.drew ?_ | refine Below.alloc ?_ (by first | (simp; done) | (simp; omega)) _)
set_option maxHeartbeats 4000000 in
set_option maxRecDepth 100000 in
theorem dr_close (d : Dr) (U : Option Addr) (cu i : Nat) (x : Int) (w : World) (f : Nat → Int) (hU : Us w U 40 f) (hx : f i = x) (ha : d.at' = i) (hi : i < 40) (h0 : d.next = d.n + 1) (hg : d.got = false) (hN : 1 ≤ d.n ∧ d.n ≤ 32) (ht : 0 ≤ d.tr ∧ d.tr ≤ 1000) (hd : d.done = false)  :
    Calls Tryd.prog 18 #[drV d, .slice U 40 cu] w fun e w' => RdGo { d with got := x == d.cn, done := x == d.cn, next := 0 } w e w' := by
  obtain ⟨a, n, nx, cn, pL, nL, cL, got, done, tr⟩ := d
  have hg : got = false := hg
  have ha : a = i := ha
  have hd : done = false := hd
  have hN : 1 ≤ n ∧ n ≤ 32 := hN
  obtain ⟨hN1, hN2⟩ := hN
  subst hg ha hd
  obtain ⟨b, o, rfl⟩ := hU.head hi
  have hc := hU.cell hi
  rw [hx] at hc
  have hi0 : (0 : Int) ≤ i := by omega
  have hi1 : (i : Int) < 40 := by omega
  have h0 : nx = n + 1 := h0
  subst h0
  have hz := al_cell (o := .cells #[.int .i64 i, .int .i64 n, .int .i64 (n + 1), .int .u32 cn, .slice pL nL cL, .bool false, .bool false, .int .i64 tr] 49) hc
  have hz2 := al_cell (o := .cells #[.int .i64 0, .int .i64 0, .int .i64 0, .int .u32 0, .slice none 0 0, .bool false, .bool false, .int .i64 0] 49) hz
  have hsum : IntKind.i64.wrap (tr + 1) = tr + 1 := IntWalk.i64_in _ (by have : 0 ≤ tr ∧ tr ≤ 1000 := ht; omega)
  have hn1 : (1 : Int) ≤ n + 1 := by omega
  have hn2 : ¬ (n + 1 ≤ n) := by omega
  have hn3 : ((n + 1 : Int) == 0) = false := beq_false_of_ne (by omega)
  simp only [drV, RdGo]
  clear hU hc hz hx
  go_enter Tryd.func18, Tryd.ntmps18
  go_wp2_with fail
  go_region
  go_wp2_with fail
  refine bodyPost_ret (v := .agg #[.int .i64 i, .int .i64 n, .int .i64 0, .int .u32 cn, .slice pL nL cL, .bool (x == cn), .bool (x == cn), .int .i64 tr]) (by simp [results, Tryd.results18, go_sem]) rfl ⟨rfl, ?_⟩
  repeat (first | exact Below.refl _ _ | refine Below.drew ?_ | refine Below.alloc ?_ (by first | (simp; done) | (simp; omega)) _)
theorem own_form {w : World} {base n : Nat} {v : Value} {xs : List Value} (h : w.ownsRow base 22 1 v n xs) : ∃ A c, v = .slice A n c := by
  rcases h.2 with ⟨rfl, rfl⟩ | ⟨g, cap, cur, rfl, _⟩
  · exact ⟨none, 0, rfl⟩
  · exact ⟨_, _, rfl⟩
theorem heap_alloc_at (w : World) (o : Obj) (H : Nat) (hH : H = w.heap.size) : (w.alloc o).heap[H]? = some o := by subst hH; exact heap_alloc_new w o
/-- The append of words, or of none, to a list laid just before, at a step. -/
theorem step_app_ws {w : World} {ops : Array Oper} {o : Oper} {a : Act} {K : Act → World → Prop} {Q : Exit → Act → World → Prop} {E : Prop} (hgd : o.guard = none) (s x : Operand)
    (ho : o.op = .call { callee := .builtin .append, args := #[s, x], argTypes := #[37, 37] }) (base H : Nat) (hs : a.eval s = .slice (some ⟨H, 0, none⟩) 0 0) (hH : w.heap[H]? = some (.cells #[] 22 (0, 0))) (hb : base ≤ H)
    (b o' n cp : Nat) (f : Nat → Int) (hx : a.eval x = .slice (some ⟨b, o', none⟩) n cp) (hU : Us w (some ⟨b, o', none⟩) n f) (hn : n ≤ 100) (hbase : base ≤ w.heap.size)
    (h : ∀ A5 d5 w', w'.ownsRow base 22 1 (.slice A5 n d5) n ((List.range n).map fun i => .int .u32 (f i)) → w.grownBy w' (some H) → K (a.put o.dst (.slice A5 n d5)) w') :
    if Region.wanted o (yielded ops a.tmps) = true then Oper.wp Tryd.prog o a w K Q else E := by
  have hw : Region.wanted o (yielded ops a.tmps) = true := by simp [Region.wanted, hgd]
  rw [if_pos hw]
  obtain ⟨i0, hi, hz0, hz1, hz2⟩ := info_parts info22
  have hown : w.ownsRow base 22 1 (.slice (some ⟨H, 0, none⟩) 0 0) 0 [] := by
    refine ⟨by simp, .inr ⟨H, 0, #[], rfl, hb, hH, ?_⟩⟩
    simp [maxLen]
  refine wp_append_own w s x 37 ho base 22 i0 (.int .u32 0) 1 4 Tryd.underlying37 hi hz0 hz1 hz2 rfl (by decide) _ 0 [] hs hown ⟨b, o', none⟩ n cp ((List.range n).map fun i => .int .u32 (f i)) hx (by simp) ?_ ?_ (by unfold maxLen; omega) (by omega) hbase ?_
  · intro j u hu
    have hj : j < n := by have := (List.getElem?_eq_some_iff.1 hu).1; simpa using this
    rw [List.getElem?_map, List.getElem?_range hj] at hu
    injection hu with hu
    subst hu
    rw [add_off]
    exact hU.cell hj
  · intro u hu
    obtain ⟨i, _, rfl⟩ := List.mem_map.1 hu
    rfl
  · intro v' w' hown' hgrow _
    rw [Nat.zero_add, List.nil_append] at hown'
    obtain ⟨A5, d5, rfl⟩ := own_form hown'
    exact h A5 d5 w' hown' hgrow
/-- The append of one word, at a step. -/
theorem step_app_w1 {w : World} {ops : Array Oper} {o : Oper} {a : Act} {K : Act → World → Prop} {Q : Exit → Act → World → Prop} {E : Prop} (hgd : o.guard = none) (s x : Operand)
    (ho : o.op = .call { callee := .builtin .append, args := #[s, x], argTypes := #[37, 37] }) (base H : Nat) (A5 : Option Addr) (d5 n : Nat) (f : Nat → Int) (hs : a.eval s = .slice A5 n d5)
    (hown : w.ownsRow base 22 1 (.slice A5 n d5) n ((List.range n).map fun i => .int .u32 (f i))) (y : Int) (hx : a.eval x = .slice (some ⟨H, 0, none⟩) 1 1) (hH : w.heap[H]? = some (.cells #[.int .u32 y] 22 (0, 0))) (hn : n ≤ 100) (hbase : base ≤ w.heap.size)
    (h : ∀ A6 d6 w', w'.ownsRow base 22 1 (.slice A6 (n + 1) d6) (n + 1) ((List.range (n + 1)).map fun i => .int .u32 (upd f n y i)) → w.grownBy w' ((Value.slice A5 n d5).ownBlock) → K (a.put o.dst (.slice A6 (n + 1) d6)) w') :
    if Region.wanted o (yielded ops a.tmps) = true then Oper.wp Tryd.prog o a w K Q else E := by
  have hw : Region.wanted o (yielded ops a.tmps) = true := by simp [Region.wanted, hgd]
  rw [if_pos hw]
  obtain ⟨i0, hi, hz0, hz1, hz2⟩ := info_parts info22
  refine wp_append_own w s x 37 ho base 22 i0 (.int .u32 0) 1 4 Tryd.underlying37 hi hz0 hz1 hz2 rfl (by decide) _ n _ hs hown ⟨H, 0, none⟩ 1 1 [.int .u32 y] hx (by simp) (World.news_of_block hH) (fun v hv => by simp at hv; subst hv; rfl) (by unfold maxLen; omega) (by omega) hbase ?_
  intro v' w' hown' hgrow _
  have e : (List.range n).map (fun i => Value.int .u32 (f i)) ++ [.int .u32 y] = (List.range (n + 1)).map fun i => .int .u32 (upd f n y i) := by
    rw [List.range_succ, List.map_append]
    congr 1
    · refine List.map_congr_left fun i hi => ?_
      have := List.mem_range.1 hi
      rw [upd_other (by omega)]
    · simp [upd_same]
  rw [e] at hown'
  obtain ⟨A6, d6, rfl⟩ := own_form hown'
  exact h A6 d6 w' hown' hgrow
end Go.Proofs.YtoaaeamogpdcgaaDoor
