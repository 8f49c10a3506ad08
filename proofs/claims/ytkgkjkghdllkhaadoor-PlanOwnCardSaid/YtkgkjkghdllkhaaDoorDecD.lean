/-
  Cores, and lists of cores, as the reader of plans reads them.
-/
import Derived.Test.YtkgkjkghdllkhaaDoorDecB
namespace Go.Proofs.YtkgkjkghdllkhaaDoor
open Go.RowKit

theorem own_form {w : World} {base E C n : Nat} {v : Value} {xs : List Value} (h : w.ownsRow base E C v n xs) : ∃ A c, v = .slice A n c ∧ (A = none → c = 0) := by
  rcases h.2 with ⟨rfl, rfl⟩ | ⟨g, cap, cur, rfl, _⟩
  · exact ⟨none, 0, rfl, fun _ => rfl⟩
  · exact ⟨_, _, rfl, fun e => by cases e⟩
theorem own_base {w : World} {base base' E C n : Nat} {v : Value} {xs : List Value} (h : w.ownsRow base E C v n xs) (hb : base' ≤ base) : w.ownsRow base' E C v n xs := by
  refine ⟨h.1, ?_⟩
  rcases h.2 with h | ⟨g, cap, cur, a, b, r⟩
  · exact .inl h
  · exact .inr ⟨g, cap, cur, a, Nat.le_trans hb b, r⟩
/-- What is owned stays, if something of another type grows. -/
theorem own_other {w w' : World} {base base' E C n E' C' n' : Nat} {v u : Value} {xs ys : List Value} (h : w.ownsRow base E C v n xs) (ho : w.ownsRow base' E' C' u n' ys) (hne : E ≠ E') (hg : w.grownBy w' u.ownBlock) : w'.ownsRow base E C v n xs := by
  refine World.ownsRow.kept h hg ?_
  rcases h.2 with ⟨rfl, _⟩ | ⟨g, cap, cur, rfl, _, h1, _⟩
  · exact .inl rfl
  · refine .inr fun e => ?_
    rcases ho.2 with ⟨rfl, _⟩ | ⟨g', cap', cur', rfl, _, h2, _⟩
    · cases e
    · injection e with e
      have e' : g = g' := e
      subst e'
      rw [h1] at h2
      injection h2 with h2
      injection h2 with _ h3
      exact hne h3
/-- What is owned stays, if an old block grows. -/
theorem own_old {w w' : World} {base E C n g : Nat} {v : Value} {xs : List Value} (h : w.ownsRow base E C v n xs) (hg : w.grownBy w' (some g)) (hb : g < base) : w'.ownsRow base E C v n xs :=
  World.ownsRow.kept h hg (.inr fun e => by have := (World.ownsRow.lt h g e).1; omega)
/-- Windows, each core's in memory of the call's own. -/
def OwnC (w : World) (base : Nat) (v : Value) (cs : List (List WinA)) : Prop :=
  ∃ vs : List Value, vs.length = cs.length ∧ w.ownsRow base 49 1 v cs.length vs ∧ ∀ i, i < cs.length → Own_win w base (vs.getD i .nilIface) (cs.getD i [])

section
variable {w : World} {g b cap : Nat} {s : ByteArray} {σ : St}
set_option maxHeartbeats 4000000 in
set_option maxRecDepth 100000 in
theorem core_any (h : RdS w g b cap s σ) :
    Calls Tryd.prog 63 #[.agg #[gp g]] w fun e w' => ∃ v, e = .returned v ∧ Own_win w' w.heap.size v (dCore s σ).1 ∧ RdS w' g b cap s (dCore s σ).2 ∧ w.grownBy w' (some g) := by
  have hg := h.glt
  have HR := Lib.hid ((h.alloc (.cells #[gp g] 81)).drew)
  have HO : Hid (w.grownBy ((w.alloc (.cells #[gp g] 81)).drew) (some g)) := only_below (((Below.refl _ _).alloc (Nat.le_refl _) _).drew) _
  have HK : Hid (((w.alloc (.cells #[gp g] 81)).drew).heap[w.heap.size]? = some (.cells #[gp g] 81 (0, 0))) := heap_alloc_new _ _
  have hmf : ∀ (fn : Fn) (first cap : Array Value) (w : World), (Instr.makeFunc fn first cap).run Tryd.prog w = .ok (.func fn first cap) w := fun _ _ _ _ => rfl
  obtain ⟨r, hr⟩ : ∃ r, r = dCore s σ := ⟨_, rfl⟩
  have HC := Lib.hid hr
  rw [← hr]
  clear h hr
  unfold dCore at HC
  go_enter Tryd.func63, Tryd.ntmps63
  go_wp2_with fail
  go_region_held3 (fun w' => w'.cell? ⟨w.heap.size, 0, none⟩ = some (gp g)) (go_keep)
    (first
      | (go_at_call 60; refine (sixteen_gen HR.out).mono ?_; rintro e w1 ⟨x, σ', hd, ⟨hx1, hx2⟩, rfl, hR, hO⟩
         have hK := (hO.block _ (Array.getElem?_eq_some_iff.1 HK.out).1 (by simp; omega)).trans HK.out
         have hC := step_eq HC.out hd
         have hO' := only_trans HO.out hO
         clear HR HO HK HC hO hd
         have HR := Lib.hid hR
         have HO := Lib.hid hO'
         have HC := Lib.hid hC
         have cc := (box1 hK).2
         have hsz := hO'.size
         clear hR hO' hC hK)
      | (go_at_call 81; rw [IntWalk.i64_in x (by omega)]; refine (list_win _ hx1 hx2 HR.out).mono ?_; rintro e w1 ⟨v, rfl, hOw, hR, hO⟩
         have hO' := only_trans HO.out hO
         have HOw := Lib.hid (own_base hOw hsz)
         have HR2 := Lib.hid hR
         have HO2 := Lib.hid hO'
         have cc2 : w1.cell? ⟨w.heap.size, 0, none⟩ = some (gp g) := hO.cell cc (by simp; omega)
         clear hR hO' hO hOw))
  all_goals
    go_wp2
    go_ret
    rw [HC.out]
    exact ⟨_, rfl, HOw.out, HR2.out, HO2.out⟩

theorem info49_core : (Tryd.prog.info? 49).map (fun i => (i.zero, i.size, i.bytes)) = some (some (.slice none 0 0), 1, 24) := by kernel_rfl
set_option maxHeartbeats 1000000 in
set_option maxRecDepth 100000 in
theorem growZ_core (n : Nat) (w : World) (h0 : 0 < n) (hn : n ≤ 100000) :
    Calls Tryd.prog 80 #[.slice none 0 0, .int .i64 n] w fun e w' => e = .returned (.slice (some ⟨w.heap.size, 0, none⟩) 0 (grownCap w n 0 49)) ∧
      ∃ cur : Array Value, w' = w.drew.alloc (.cells cur 49) ∧ cur.size = grownCap w n 0 49 * 1 := by
  obtain ⟨i0, hi, hz0, hz1, hz2⟩ := info_parts info49_core
  have hold : (Builtin.firstCells i0.size 0 (.slice none 0 0)).run Tryd.prog w.drew = .ok ([] : List Value).toArray w.drew := run_firstCells_none w.drew i0.size 0 0 0
  have hfit : Builtin.nextslicecap (0 + n) 0 * i0.bytes ≤ 281474976710656 := growslice_fits (by omega) (by rw [hz2]; omega)
  have hG : n ≤ grownCap w n 0 49 := grownCap_ge w _ _ _
  have hrz : ∀ ty, (Builtin.append_ #[23, 3] ty #[.slice none 0 0, .int .i64 (n : Int)]).run Tryd.prog w =
      .ok (.slice (some ⟨w.heap.size, 0, none⟩) n (grownCap w n 0 49)) (w.drew.alloc (.cells (#[] ++ Builtin.zeroCells (Value.cells (.slice none 0 0)) n ++ Builtin.zeroCells (Value.cells (.slice none 0 0)) (grownCap w n 0 49 - n)) 49)) := fun ty => by
    have h := Lib.run_append_grow_zeros w 23 3 ty 49 i0 (.slice none 0 0) .i64 .i64 Tryd.underlying23 Tryd.underlying3 hi hz0 none 0 0 [] hold n (by omega) (by omega) (by omega) (by omega) (by rw [hz2]; omega) hfit
    simp only [Nat.zero_add] at h
    exact h
  obtain ⟨cur, hcur⟩ : ∃ cur, cur = (#[] ++ Builtin.zeroCells (Value.cells (.slice none 0 0)) n ++ Builtin.zeroCells (Value.cells (.slice none 0 0)) (grownCap w n 0 49 - n)) := ⟨_, rfl⟩
  have hsz : cur.size = grownCap w n 0 49 * 1 := by
    rw [hcur, Array.size_append, Array.size_append, size_zeroCells, size_zeroCells, show (Value.cells (.slice none 0 0)).size = 1 from rfl]
    show 0 + n * 1 + (grownCap w n 0 49 - n) * 1 = _
    omega
  rw [← hcur] at hrz
  clear hcur hold hfit
  have hG63 : grownCap w n 0 49 ≤ 9223372036854775807 := by
    have := grownCap_le_maxLen w n 0 49 (by unfold maxLen; omega)
    unfold maxLen at this
    omega
  generalize grownCap w n 0 49 = G at *
  have HS := Lib.hid hsz
  clear hsz
  go_enter Tryd.func80, Tryd.ntmps80
  go_wp2_with (at_builtin; refine Lib.wpList_append_run _ rfl _ _ _ _ rfl _ _ rfl rfl _ _ (hrz _) ?_)
  all_goals (go_ret; exact ⟨rfl, _, rfl, HS.out⟩)
set_option maxHeartbeats 1000000 in
set_option maxRecDepth 100000 in
theorem grow_core (n : Nat) (w : World) (hn : n ≤ 100000) :
    Calls Tryd.prog 80 #[.slice none 0 0, .int .i64 n] w fun e w' => ∃ v, e = .returned v ∧ w'.ownsRow w.heap.size 49 1 v 0 [] ∧ Below w.heap.size w w' := by
  by_cases h0 : 0 < n
  · exact (growZ_core n w h0 hn).mono fun _ _ ⟨he, cur, hw, hc⟩ => by
      subst hw
      refine ⟨_, he, World.ownsRow_made w.drew cur _ (Nat.le_refl _) ?_ hc, ((Below.refl _ _).drew).alloc (Nat.le_refl _) _⟩
      exact grownCap_le_maxLen w n 0 49 (by unfold maxLen; omega)
  · obtain rfl : n = 0 := by omega
    go_enter Tryd.func80, Tryd.ntmps80
    go_wp2
    go_ret
    exact ⟨_, rfl, World.ownsRow_nil _ _ _ _, Below.refl _ _⟩

theorem info49_c : (Tryd.prog.info? 49).map (fun i => (i.zero, i.size, i.bytes)) = some (some (.slice none 0 0), 1, 24) := by kernel_rfl
def Rel_core (w : World) (g b cap : Nat) (s : ByteArray) (σ : St) (m : Nat) (v i : Value) (wr : World) : Prop :=
  ∃ k : Nat, k ≤ m ∧ i = .int .i64 k ∧ OwnC wr w.heap.size v (rep (dCore s) k σ).1 ∧ RdS wr g b cap s (rep (dCore s) k σ).2 ∧ w.grownBy wr (some g)
theorem getD_left {α : Type} {l l' : List α} {i : Nat} {d : α} (h : i < l.length) : (l ++ l').getD i d = l.getD i d := by
  rw [List.getD_eq_getElem?_getD, List.getD_eq_getElem?_getD, List.getElem?_append_left h]
theorem getD_last {α : Type} {l : List α} {x d : α} : (l ++ [x]).getD l.length d = x := by
  rw [List.getD_eq_getElem?_getD, List.getElem?_append_right (Nat.le_refl _)]
  simp
theorem OwnC.push {w2 w3 : World} {base k : Nat} {u v3 v2 : Value} {cs : List (List WinA)} {ws : List WinA} {vs : List Value} (hl : vs.length = cs.length) (hk : cs.length = k)
    (hin : ∀ i, i < cs.length → Own_win w2 base (vs.getD i .nilIface) (cs.getD i [])) (h2 : Own_win w2 base v2 ws) (hu : w2.ownsRow base 49 1 u k vs) (hG : w2.grownBy w3 u.ownBlock)
    (h3 : w3.ownsRow base 49 1 v3 (k + 1) (vs ++ [v2])) : OwnC w3 base v3 (cs ++ [ws]) := by
  refine ⟨vs ++ [v2], by simp [hl], by rw [List.length_append, hk]; exact h3, fun i hi => ?_⟩
  rcases Nat.lt_or_ge i cs.length with h | h
  · rw [getD_left (by omega), getD_left h]
    exact own_other (hin i h) hu (by decide) hG
  · have hi' : i = cs.length := by simp at hi; omega
    subst hi'
    rw [getD_last, ← hl, getD_last]
    exact own_other h2 hu (by decide) hG

set_option maxHeartbeats 4000000 in
set_option maxRecDepth 100000 in
theorem list_core (n : Int) (hn0 : 0 ≤ n) (hn : n ≤ 65535) (h : RdS w g b cap s σ) :
    Calls Tryd.prog 62 #[.int .i64 n, .func (.func 63) #[.agg #[gp g]] #[]] w fun e w' => ∃ v, e = .returned v ∧ OwnC w' w.heap.size v (rep (dCore s) n.toNat σ).1 ∧ RdS w' g b cap s (rep (dCore s) n.toNat σ).2 ∧ w.grownBy w' (some g) := by
  obtain ⟨m, rfl⟩ : ∃ m : Nat, n = m := ⟨n.toNat, by omega⟩
  simp only [Int.toNat_natCast]
  obtain ⟨i0, hi, hz0, hz1, hz2⟩ := info_parts info49_c
  have hg := h.glt
  have HR := Lib.hid h
  have HGR := Lib.hid (grow_core m w (by omega))
  clear h
  go_enter Tryd.func62, Tryd.ntmps62
  go_wp2_with fail
  refine HGR.out.mono ?_
  rintro e w1 ⟨v1, rfl, hO1, hB1⟩
  have HO1 := Lib.hid hO1
  have HB1 := Lib.hid hB1
  clear hO1 hB1 HGR
  go_wp2_with fail
  go_loopw [5, 9] (fun v i wr => Rel_core w g b cap s σ m v i wr) (fun _ i _ => m - (intOf i).toNat)
  case atStart => exact ⟨0, Nat.zero_le _, rfl, ⟨[], rfl, HO1.out, fun i hi => by simp [rep] at hi⟩, HR.out.below HB1.out, only_below HB1.out _⟩
  case round =>
    obtain ⟨k, hk, rfl, hO, hR, hG⟩ := hrel
    have hs := hG.size
    have hlen := rep_length (dCore s) k σ
    have HL := Lib.hid hlen
    have HG := Lib.hid hG
    have HOC := Lib.hid hO
    have HR' := Lib.hid hR
    by_cases hlt : k < m
    · obtain ⟨vs, q1, q2, q3⟩ := hO
      rw [hlen] at q2
      have Q1 := Lib.hid q1
      have HO := Lib.hid q2
      have Q3 := Lib.hid q3
      have HC := core_any hR
      obtain ⟨y, hy⟩ : ∃ y, y = dCore s (rep (dCore s) k σ).2 := ⟨_, rfl⟩
      rw [← hy] at HC
      obtain ⟨ws, σ'⟩ := y
      have HC := Lib.hid HC
      have HY := Lib.hid hy
      clear hR hG hlen hy q1 q2 q3
      go_wp2_with fail
      refine HC.out.mono ?_
      rintro e w2 ⟨v2, rfl, hO2, hR2, hG2⟩
      have HO2 := Lib.hid (show Own_win w2 w.heap.size v2 ws from own_base hO2 hs)
      obtain ⟨A2, c2, rfl, _⟩ := own_form hO2
      have HR2 := Lib.hid hR2
      have HG2 := Lib.hid (only_trans HG.out hG2)
      have hs2 := hG2.size
      have hown := World.ownsRow.kept HO.out hG2 (.inr (fun e => by have := (World.ownsRow.lt HO.out g e).1; omega))
      have Q32 := Lib.hid (fun i hi => own_old (Q3.out i hi) hG2 hg)
      have HOWN := Lib.hid hown
      clear hR2 hG2 hO2
      obtain ⟨nn, hnn⟩ : ∃ nn, nn = ws.length := ⟨_, rfl⟩
      go_wp2_with (at_builtin; refine wpList_append_own _ rfl _ _ 23 rfl w.heap.size 49 i0 (.slice none 0 0) 1 24 Tryd.underlying23 hi hz0 hz1 hz2 rfl (by decide) u5 k _ rfl (hown.alloc _) ⟨w2.heap.size, 0, none⟩ 1 1 [.slice A2 ws.length c2] rfl rfl ?c1 ?c2 ?c3 ?c4 ?c5 ?_)
      case c1 => exact newsE rfl 49
      case c2 => intro u hu; simp at hu; subst hu; rfl
      case c3 => unfold maxLen; omega
      case c4 => omega
      case c5 => simp; omega
      intro v3 w3 hO3 hG3 _
      have HO3 : Hid (OwnC w3 w.heap.size v3 (rep (dCore s) (k + 1) σ).1) := by
        show OwnC _ _ _ _
        rw [rep_succ, ← HY.out]
        exact OwnC.push (w2 := w2.alloc _) Q1.out HL.out (fun i hi => (World.ownsRow.alloc (Q32.out i hi) _)) (World.ownsRow.alloc HO2.out _) (HOWN.out.alloc _) hG3 hO3
      have hb3 : ∀ j, u5.ownBlock = some j → w.heap.size ≤ j := fun j e => (World.ownsRow.lt HO.out j e).1
      have HR3 : Hid (RdS w3 g b cap s (rep (dCore s) (k + 1) σ).2) := by
        show RdS _ _ _ _ _ _
        rw [rep_succ, ← HY.out]
        have hbl := Rd.lt HR.out
        exact Rd.grown (HR2.out.alloc _) hG3 (fun e => by have := hb3 _ e.symm; omega) (fun e => by have := hb3 _ e.symm; omega)
      have HG3 : Hid (w.grownBy w3 (some g)) := only_after HG2.out hG3 hb3
      clear hO3 hG3 hown
      go_wp2
      go_roundw
      case rel => exact ⟨k + 1, by omega, by go_num, HO3.out, HR3.out, HG3.out⟩
      case measure => simp [intOf]; omega
    · obtain rfl : k = m := by omega
      clear hO hR hG hlen
      go_wp2_with fail
      go_ret
      exact ⟨_, rfl, HOC.out, HR'.out, HG.out⟩
end
end Go.Proofs.YtkgkjkghdllkhaaDoor
