/-
  Partitions, and lists of partitions, as the reader of plans reads them.
-/
import Derived.Test.YtkgkjkghdllkhaaDoorDecD
namespace Go.Proofs.YtkgkjkghdllkhaaDoor
open Go.RowKit

/-- A partition's cells. -/
def pcell (x : (Value × Value) × PartA) : List Value := [x.1.1, .int .u8 x.2.2.1, x.1.2, .int .u8 x.2.2.2.2.1, .int .u8 x.2.2.2.2.2.1, .int .u8 x.2.2.2.2.2.2]
/-- Partitions, with lists in memory of the call's own. -/
def OwnP (w : World) (base : Nat) (v : Value) (ps : List PartA) : Prop :=
  ∃ vs : List (Value × Value), vs.length = ps.length ∧ w.ownsRow base 56 6 v ps.length ((vs.zip ps).flatMap pcell) ∧
    ∀ i, i < ps.length → Own_sem w base (vs.getD i (.nilIface, .nilIface)).1 (ps.getD i dQ).1 ∧ Own_byt w base (vs.getD i (.nilIface, .nilIface)).2 (ps.getD i dQ).2.2.1

section
variable {w : World} {g b cap : Nat} {s : ByteArray} {σ : St}
theorem Fin.own {w' : World} {base E C n : Nat} {v : Value} {xs : List Value} {h t i : Nat} {cs : Array Value} {u : Value} (ho : w'.ownsRow base E C v n xs) (hr : w'.heap[h]? = some (.cells cs t (0, 0))) (hne : E ≠ t) : (w'.setCell ⟨h, i, none⟩ u).ownsRow base E C v n xs := by
  refine ⟨ho.1, ?_⟩
  rcases ho.2 with h1 | ⟨g, cap, cur, a, b, c, r⟩
  · exact .inl h1
  · refine .inr ⟨g, cap, cur, a, b, ?_, r⟩
    have : g ≠ h := fun e => by
      subst e
      rw [hr] at c
      injection c with c
      injection c with _ c
      exact hne c.symm
    exact (Below.heap_setCell w' ⟨h, i, none⟩ u g this).trans c
theorem row_set {w' : World} {h t i : Nat} {cs : Array Value} {u : Value} (hr : w'.heap[h]? = some (.cells cs t (0, 0))) : ∃ cs', (w'.setCell ⟨h, i, none⟩ u).heap[h]? = some (.cells cs' t (0, 0)) := by
  simp [World.setCell, Array.getElem?_modify, hr]
/-- What is owned stays, behind six stores into the result. -/
theorem own_set6 {w' : World} {base E C n : Nat} {v : Value} {xs : List Value} {h t : Nat} {cs : Array Value} {u0 u1 u2 u3 u4 u5 : Value} (ho : w'.ownsRow base E C v n xs) (hr : w'.heap[h]? = some (.cells cs t (0, 0))) (hne : E ≠ t) :
    ((((((w'.setCell ⟨h, 0, none⟩ u0).setCell ⟨h, 1, none⟩ u1).setCell ⟨h, 2, none⟩ u2).setCell ⟨h, 3, none⟩ u3).setCell ⟨h, 4, none⟩ u4).setCell ⟨h, 5, none⟩ u5).ownsRow base E C v n xs := by
  obtain ⟨_, r1⟩ := row_set (i := 0) (u := u0) hr
  obtain ⟨_, r2⟩ := row_set (i := 1) (u := u1) r1
  obtain ⟨_, r3⟩ := row_set (i := 2) (u := u2) r2
  obtain ⟨_, r4⟩ := row_set (i := 3) (u := u3) r3
  obtain ⟨_, r5⟩ := row_set (i := 4) (u := u4) r4
  exact Fin.own (Fin.own (Fin.own (Fin.own (Fin.own (Fin.own ho hr hne) r1 hne) r2 hne) r3 hne) r4 hne) r5 hne

theorem list_sem_gen (n : Int) (hn0 : 0 ≤ n) (hn : n ≤ 65535) (h : RdS w g b cap s σ) :
    Calls Tryd.prog 84 #[.int .i64 n, .func (.func 85) #[.agg #[gp g]] #[]] w fun e w' => ∃ xs σ' A c, rep (dSem s) n.toNat σ = (xs, σ') ∧ e = .returned (.slice A xs.length c) ∧ Own_sem w' w.heap.size (.slice A xs.length c) xs ∧ RdS w' g b cap s σ' ∧ w.grownBy w' (some g) :=
  (list_sem n hn0 hn h).mono fun _ _ ⟨v, he, hO, hR, hG⟩ => by
    obtain ⟨A, c, rfl, _⟩ := own_form hO
    exact ⟨_, _, A, c, rfl, he, hO, hR, hG⟩
theorem list_byt_gen (n : Int) (hn0 : 0 ≤ n) (hn : n ≤ 65535) (h : RdS w g b cap s σ) :
    Calls Tryd.prog 86 #[.int .i64 n, .func (.func 61) #[gp g] #[]] w fun e w' => ∃ xs σ' A c, rep (d8 s) n.toNat σ = (xs, σ') ∧ e = .returned (.slice A xs.length c) ∧ Own_byt w' w.heap.size (.slice A xs.length c) xs ∧ RdS w' g b cap s σ' ∧ w.grownBy w' (some g) :=
  (list_byt n hn0 hn h).mono fun _ _ ⟨v, he, hO, hR, hG⟩ => by
    obtain ⟨A, c, rfl, _⟩ := own_form hO
    exact ⟨_, _, A, c, rfl, he, hO, hR, hG⟩
/-- What part answers. -/
def PartPost (w : World) (g b cap : Nat) (s : ByteArray) (r : PartA × St) (e : Ending) (w' : World) : Prop :=
  ∃ A1 c1 A2 c2, e = .returned (.agg #[.slice A1 r.1.1.length c1, .int .u8 r.1.2.1, .slice A2 r.1.2.2.1.length c2, .int .u8 r.1.2.2.2.1, .int .u8 r.1.2.2.2.2.1, .int .u8 r.1.2.2.2.2.2]) ∧
    Own_sem w' w.heap.size (.slice A1 r.1.1.length c1) r.1.1 ∧ Own_byt w' w.heap.size (.slice A2 r.1.2.2.1.length c2) r.1.2.2.1 ∧ RdS w' g b cap s r.2 ∧ w.grownBy w' (some g)
set_option maxHeartbeats 8000000 in
set_option maxRecDepth 100000 in
theorem part_any (h : RdS w g b cap s σ) :
    Calls Tryd.prog 65 #[.agg #[gp g]] w fun e w' => PartPost w g b cap s (dPart s σ) e w' := by
  have HM := Lib.hid (Mid.start h #[.slice none 0 0, .int .u8 0, .slice none 0 0, .int .u8 0, .int .u8 0, .int .u8 0] 56)
  have HG := Lib.hid h.glt
  have HB := Lib.hid (Rd.lt h)
  have hmf : ∀ (fn : Fn) (first cap : Array Value) (w : World), (Instr.makeFunc fn first cap).run Tryd.prog w = .ok (.func fn first cap) w := fun _ _ _ _ => rfl
  obtain ⟨r, hr⟩ : ∃ r, r = dPart s σ := ⟨_, rfl⟩
  have HC := Lib.hid hr
  rw [← hr]
  clear h hr
  unfold dPart at HC
  go_enter Tryd.func65, Tryd.ntmps65
  go_wp2_with fail
  go_region_held3 (fun w' => w'.cell? ⟨w.heap.size, 0, none⟩ = some (gp g)) (go_keep)
    (first
      | (go_at_call 84; rw [IntWalk.i64_in x (by omega)]; refine (list_sem_gen _ hx1 (by omega) HM.out.rd).mono ?_; rintro e w1 ⟨sems, σ', A1, c1, hd, rfl, hOw, hR, hO⟩
         have hsz := HM.out.grown.size
         have hM := HM.out.step hR hO
         have hC := step_eq HC.out hd
         have HS := Lib.hid (own_base hOw hsz)
         clear HM HC hR hO hd hOw hsz
         have HM := Lib.hid hM
         have HC := Lib.hid hC
         have cc := (box1 hM.row).2
         clear hM hC)
      | (go_at_call 86; rw [IntWalk.i64_in x (by omega)]; refine (list_byt_gen _ hx1 (by omega) HM.out.rd).mono ?_; rintro e w1 ⟨procs, σ', A2, c2, hd, rfl, hOw, hR, hO⟩
         have hsz := HM.out.grown.size
         have hM := HM.out.step hR hO
         have hC := step_eq HC.out hd
         have HP := Lib.hid (own_base hOw hsz)
         have hs2 := own_old HS.out hO HG.out
         clear HS
         have HS := Lib.hid hs2
         clear HM HC hR hO hd hOw hsz hs2
         have HM := Lib.hid hM
         have HC := Lib.hid hC
         have cc := (box1 hM.row).2
         clear hM hC)
      | (go_at_call 61; refine (eight_gen HM.out.rd).mono ?_; rintro e w1 ⟨x, σ', hd, ⟨hx1, hx2⟩, rfl, hR, hO⟩
         have hM := HM.out.step hR hO
         have hC := step_eq HC.out hd
         try (have hs2 := own_old HS.out hO HG.out; clear HS; have HS := Lib.hid hs2; clear hs2)
         try (have hs2 := own_old HP.out hO HG.out; clear HP; have HP := Lib.hid hs2; clear hs2; obtain ⟨d0, d1, d2, d3, d4, d5⟩ := (box6'' hM.res).2; have fz := frozen_of hM.res)
         clear HM HC hR hO hd
         have HM := Lib.hid hM
         have HC := Lib.hid hC
         have cc := (box1 hM.row).2
         clear hM hC))
  all_goals
    go_wp2
    refine bodyPost_ret (v := .agg #[.slice A1 r.1.1.length c1, .int .u8 r.1.2.1, .slice A2 r.1.2.2.1.length c2, .int .u8 r.1.2.2.2.1, .int .u8 r.1.2.2.2.2.1, .int .u8 r.1.2.2.2.2.2]) (by rw [HC.out]; simp [results, Tryd.results65, go_sem, d0, d1, d2, d3, d4, d5, ret]) rfl ?_
    refine ⟨A1, c1, A2, c2, rfl, ?_, ?_, ?_, ?_⟩
    · rw [HC.out]
      exact own_set6 HS.out HM.out.res (by decide)
    · rw [HC.out]
      exact own_set6 HP.out HM.out.res (by decide)
    · rw [HC.out]
      exact ((((((((HM.out.fin HB.out HG.out).set (Nat.le_succ _) _ _).set (Nat.le_succ _) _ _).set (Nat.le_succ _) _ _).set (Nat.le_succ _) _ _).set (Nat.le_succ _) _ _).set (Nat.le_succ _) _ _)).1
    · exact ((((((((HM.out.fin HB.out HG.out).set (Nat.le_succ _) _ _).set (Nat.le_succ _) _ _).set (Nat.le_succ _) _ _).set (Nat.le_succ _) _ _).set (Nat.le_succ _) _ _).set (Nat.le_succ _) _ _)).2.1
end
end Go.Proofs.YtkgkjkghdllkhaaDoor
