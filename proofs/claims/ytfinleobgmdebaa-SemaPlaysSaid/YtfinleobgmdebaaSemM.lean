/-
  A semaphore: pure, and in memory; New, Count, mayWait, Wait, Signal.
-/
import Derived.Test.YtfinleobgmdebaaAddO
import Derived.Handy
namespace Go.Proofs.Ytfinleobgmdebaa
open Go.RowKit

/-- A semaphore: its line, its count, its maximum. -/
structure Sm where
  S : Ln
  c : Nat
  m : Nat
def Ln.bump (S : Ln) : Ln := { S with n := S.n + 1 }
def Sm.waitE (X : Sm) (id prio til : Int) : Bool × Int :=
  if X.S.putE id prio (-1) ≠ 0 then (false, X.S.putE id prio (-1)) else if 0 < X.c then (true, 0) else if til = 0 then (false, 0) else (false, X.S.bump.putE id prio til)
def Sm.wait (X : Sm) (id prio til : Int) : Sm :=
  if X.S.putE id prio (-1) ≠ 0 then X else if 0 < X.c then ⟨X.S.bump, X.c - 1, X.m⟩ else if til = 0 then ⟨X.S.bump, X.c, X.m⟩ else ⟨X.S.bump.put id prio til, X.c, X.m⟩
def Sm.sigE (X : Sm) : Int × Bool × Int := if X.S.any = true then (X.S.first, true, 0) else if X.c = X.m then (0, false, 151) else (0, false, 0)
def Sm.sig (X : Sm) : Sm := if X.S.any = true then ⟨X.S.take, X.c, X.m⟩ else if X.c = X.m then X else ⟨X.S, X.c + 1, X.m⟩
theorem ok_bump {S : Ln} (h : Ok S) : Ok S.bump := ⟨h.ord, h.ids, fun a ha => Nat.lt_succ_of_lt (h.arr a ha), h.pri, h.til, h.tick⟩
/-- Put, and taken back: nobody more waits. -/
theorem put_back {S : Ln} (ok : Ok S) {id prio til : Int} (h : S.putE id prio til = 0) : (S.put id prio til).drop id = S.bump := by
  obtain ⟨h1, h2, h3, h4⟩ := putE_ok h
  have hv := toId_val h1
  have hp : (S.put id prio til) = { S with q := ins ⟨toId id, prio, til, S.n⟩ S.q, n := S.n + 1 } := by unfold Ln.put; rw [if_pos h]
  have hh : (S.put id prio til).has id = true := by
    rw [hp]; exact has_iff.2 ⟨_, ins_mem.2 (.inl rfl), hv⟩
  unfold Ln.drop
  rw [if_pos hh, hp]
  unfold Ln.without Ln.bump
  congr 1
  show (ins _ S.q).filter _ = S.q
  have hq : ∀ a ∈ S.q, (!decide (a.id = toId id)) = true := fun a ha => by
    simp only [Bool.not_eq_true', decide_eq_false_iff_not]
    intro e
    have : S.has id = true := has_iff.2 ⟨a, ha, by rw [e]; exact hv⟩
    rw [h4] at this; cases this
  obtain ⟨e1, e2⟩ := filter_ins (x := ⟨toId id, prio, til, S.n⟩) ok.ord _ rfl
  unfold ins
  rw [List.filter_append, List.filter_cons_of_neg (by simp), ← List.filter_append, ← e1, ← e2, List.take_append_drop]
  exact List.filter_eq_self.2 hq

/-- A semaphore at block s, its line at block g. -/
structure SmAt (w : World) (s g b : Nat) (v : Value) (X : Sm) : Prop where
  c0 : w.cell? ⟨s, 0, none⟩ = some (.iface 68 (.pointer (some ⟨g, 0, none⟩)))
  c1 : w.cell? ⟨s, 1, none⟩ = some (.func (.func 20) #[.pointer (some ⟨g, 0, none⟩)] #[])
  c2 : w.cell? ⟨s, 2, none⟩ = some (.func (.func 21) #[.pointer (some ⟨g, 0, none⟩)] #[])
  c3 : w.cell? ⟨s, 3, none⟩ = some (nV X.c)
  c4 : w.cell? ⟨s, 4, none⟩ = some (nV X.m)
  fz : ∀ j, w.frozen? ⟨s, j, none⟩ = false
  ln : LnAt w g b v X.S
  ns : ¬ Blk g b v s
/-- The blocks of a semaphore. -/
def SBlk (s g b : Nat) (v : Value) (k : Nat) : Prop := k = s ∨ Blk g b v k
section
variable {w w' : World} {s g b : Nat} {v : Value} {X : Sm}
theorem SmAt.lts (h : SmAt w s g b v X) : s < w.heap.size := cell_lt h.c0
theorem SmAt.blk_lt (h : SmAt w s g b v X) {k : Nat} (hk : SBlk s g b v k) : k < w.heap.size := by
  rcases hk with rfl | hk
  · exact h.lts
  · exact h.ln.blk_lt hk
theorem SmAt.same (h : SmAt w s g b v X) (e : ∀ k, SBlk s g b v k → w'.heap[k]? = w.heap[k]?) : SmAt w' s g b v X := by
  have es := e s (.inl rfl)
  refine ⟨?_, ?_, ?_, ?_, ?_, fun j => ?_, h.ln.same fun k hk => e k (.inr hk), h.ns⟩
  · rw [World.cell?_of_block (w := w) es]; exact h.c0
  · rw [World.cell?_of_block (w := w) es]; exact h.c1
  · rw [World.cell?_of_block (w := w) es]; exact h.c2
  · rw [World.cell?_of_block (w := w) es]; exact h.c3
  · rw [World.cell?_of_block (w := w) es]; exact h.c4
  · rw [World.frozen?_of_block (w := w) es]; exact h.fz j
theorem SmAt.keep (h : SmAt w s g b v X) (hB : Below w.heap.size w w') : SmAt w' s g b v X := h.same fun _ hk => hB.block _ (h.blk_lt hk)
theorem SmAt.chg {T : Nat → Prop} (h : SmAt w s g b v X) (hC : Chg T w w') (hT : ∀ k, SBlk s g b v k → ¬ T k) : SmAt w' s g b v X := h.same fun k hk => hC.block _ (h.blk_lt hk) (hT k hk)
end
/-- Behind a call on a semaphore. -/
def SmP (s g b : Nat) (v : Value) (X' : Sm) (w w' : World) : Prop := ∃ v', SmAt w' s g b v' X' ∧ Chg (SBlk s g b v) w w' ∧ Slid v v' w
/-- .. where only its line was called. -/
theorem SmAt.line {w w' : World} {s g b : Nat} {v : Value} {X : Sm} {S' : Ln} (h : SmAt w s g b v X) (hP : LnP g b v S' w w') : SmP s g b v ⟨S', X.c, X.m⟩ w w' := by
  obtain ⟨v', h1, h2, h3⟩ := hP
  have hs : s < w.heap.size := h.lts
  refine ⟨v', ⟨h2.cell h.c0 h.ns, h2.cell h.c1 h.ns, h2.cell h.c2 h.ns, h2.cell h.c3 h.ns, h2.cell h.c4 h.ns, fun j => (h2.frozen (a := ⟨s, j, none⟩) hs h.ns).trans (h.fz j), h1, fun hb => ?_⟩, h2.mono fun k hk => .inr hk, h3⟩
  rcases hb with e | e | e
  · exact h.ns (.inl e)
  · exact h.ns (.inr (.inl e))
  · rcases h3 with h3 | ⟨x, e1, e2⟩
    · exact h.ns (.inr (.inr (by rw [← h3]; exact e)))
    · rw [e1] at e; injection e with e; omega
theorem SmP.refl {w : World} {s g b : Nat} {v : Value} {X : Sm} (h : SmAt w s g b v X) : SmP s g b v X w w := ⟨v, h, Chg.refl w, .inl rfl⟩
theorem SmP.below {w w' : World} {s g b : Nat} {v : Value} {X : Sm} (h : SmAt w s g b v X) (hB : Below w.heap.size w w') : SmP s g b v X w w' := ⟨v, h.keep hB, Chg.of_below hB, .inl rfl⟩
theorem SmP.trans {w w' w'' : World} {s g b : Nat} {v v' : Value} {X' : Sm} (h : Chg (SBlk s g b v) w w') (hs : Slid v v' w) (k : SmP s g b v' X' w' w'') : SmP s g b v X' w w'' := by
  obtain ⟨v'', k1, k2, k3⟩ := k
  refine ⟨v'', k1, h.trans' k2 fun i hi hb => ?_, slid_trans hs k3 h.size⟩
  rcases hb with e | e | e | e
  · exact .inl e
  · exact .inr (.inl e)
  · exact .inr (.inr (.inl e))
  · rcases hs with hs | ⟨x, h1, h2⟩
    · exact .inr (.inr (.inr (by rw [← hs]; exact e)))
    · rw [h1] at e; injection e with e; omega
/-- .. where its count was set. -/
theorem SmAt.count {w : World} {s g b : Nat} {v : Value} {X : Sm} (h : SmAt w s g b v X) (c : Nat) {z : Int} (hz : z = (c : Int)) : SmP s g b v ⟨X.S, c, X.m⟩ w (w.setCell ⟨s, 3, none⟩ (nV z)) := by
  subst hz
  have hC : Chg (fun k => k = s) w (w.setCell ⟨s, 3, none⟩ (nV (c : Int))) := Chg.set (S := fun k => k = s) (a := ⟨s, 3, none⟩) (Chg.refl w) rfl _
  have hq : ∀ j, j ≠ 3 → (w.setCell ⟨s, 3, none⟩ (nV (c : Int))).cell? ⟨s, j, none⟩ = w.cell? ⟨s, j, none⟩ := fun j hj => World.cell?_setCell_other _ _ _ _ (by intro e; simp only [Addr.mk.injEq] at e; omega)
  refine ⟨v, ⟨?_, ?_, ?_, ?_, ?_, fun j => ?_, h.ln.chg hC fun k hk e => h.ns (e ▸ hk), h.ns⟩, hC.mono fun k hk => .inl hk, .inl rfl⟩
  · rw [hq 0 (by decide)]; exact h.c0
  · rw [hq 1 (by decide)]; exact h.c1
  · rw [hq 2 (by decide)]; exact h.c2
  · exact World.cell?_setCell_same _ _ _ h.c3
  · rw [hq 4 (by decide)]; exact h.c4
  · rw [World.frozen?_setCell]; exact h.fz j

theorem snew_bad (init most : Int) (w : World) (h : most < 1 ∨ 255 < most ∨ init < 0 ∨ most < init) : Calls Try.prog 7 #[nV init, nV most] w fun e w' => e = .returned (.tuple #[.pointer none, .int .i64 150]) ∧ Below w.heap.size w w' := by
  go_enter Try.func7, Try.ntmps7
  by_cases h1 : most < 1
  · go_wp2_with fail
    go_ret2
    exact ⟨rfl, Below.refl _ _⟩
  · by_cases h2 : 255 < most
    · go_wp2_with fail
      go_ret2
      exact ⟨rfl, Below.refl _ _⟩
    · by_cases h3 : init < 0
      · go_wp2_with fail
        go_ret2
        exact ⟨rfl, Below.refl _ _⟩
      · have h4 : most < init := by omega
        go_wp2_with fail
        go_ret2
        exact ⟨rfl, Below.refl _ _⟩
def NewP (init most : Nat) (w : World) (e : Ending) (w' : World) : Prop := ∃ s g b, e = .returned (.tuple #[.pointer (some ⟨s, 0, none⟩), .int .i64 0]) ∧ SmAt w' s g b (.slice none 0 0) ⟨Ln.new, init, most⟩ ∧ (∀ k, SBlk s g b (.slice none 0 0) k → w.heap.size ≤ k) ∧ Below w.heap.size w w'
theorem snew_ok (init most : Nat) (w : World) (h1 : 1 ≤ most) (h2 : most ≤ 255) (h3 : init ≤ most) : Calls Try.prog 7 #[nV init, nV most] w fun e w' => NewP init most w e w' := by
  have hnew := Lib.hid (fun W => new_any W)
  have i1 : ¬ ((most : Int) < 1) := by omega
  have i2 : ¬ ((255 : Int) < (most : Int)) := by omega
  have i3 : ¬ ((init : Int) < 0) := by omega
  have i4 : ¬ ((most : Int) < (init : Int)) := by omega
  go_enter Try.func7, Try.ntmps7
  go_wp2_with fail
  with_reducible refine (hnew.out _).mono ?_
  rintro e w1 ⟨rfl, hL, hB⟩
  have L0 := Lib.hid hL
  have HB := Lib.hid hB
  clear hL hB
  go_wp2_with fail
  go_ret2
  have hlg := L0.out.ltg
  have hlb := L0.out.ltb
  refine ⟨w1.heap.size, w.heap.size + 1, w.heap.size, rfl, ⟨al_new _ _ _ 0 _ rfl rfl, al_new _ _ _ 1 _ rfl rfl, al_new _ _ _ 2 _ rfl rfl, al_new _ _ _ 3 _ rfl rfl, al_new _ _ _ 4 _ rfl rfl, fun j => frozen_at _ _ _ _ _ rfl, L0.out.keep ((Below.refl _ _).alloc (Nat.le_refl _) _), fun hb => ?_⟩, fun k hk => ?_, HB.out.trans (((Below.refl _ _).alloc (Nat.le_refl _) _).mono HB.out.size)⟩
  · have := L0.out.blk_lt hb; omega
  · rcases hk with e | e | e | e
    · have := HB.out.size; omega
    · omega
    · omega
    · cases e
theorem count_any {s g b : Nat} {v : Value} {X : Sm} (w : World) (h : SmAt w s g b v X) : Calls Try.prog 17 #[.pointer (some ⟨s, 0, none⟩)] w fun e w' => e = .returned (nV X.c) ∧ w = w' := by
  have c3 := h.c3
  clear h
  go_enter Try.func17, Try.ntmps17
  go_wp2_with fail
  go_ret
  exact ⟨rfl, rfl⟩
/-- mayWait. -/
def MayP (s g b : Nat) (v : Value) (X : Sm) (id prio : Int) (w : World) (e : Ending) (w' : World) : Prop := e = .returned (.int .i64 (X.S.putE id prio (-1))) ∧ SmP s g b v (if X.S.putE id prio (-1) = 0 then ⟨X.S.bump, X.c, X.m⟩ else X) w w'
theorem may_any {s g b : Nat} {v : Value} {X : Sm} (id prio : Int) (hid : I64 id) (w : World) (h : SmAt w s g b v X) (hn : X.S.q.length ≤ 1000) (hN : X.S.n ≤ 1000) :
    Calls Try.prog 23 #[.pointer (some ⟨s, 0, none⟩), nV id, nV prio] w fun e w' => MayP s g b v X id prio w e w' := by
  have c0 := h.c0
  have c1 := h.c1
  have HP := Lib.hid (put_any id prio (-1) w h.ln hn hN)
  have H := Lib.hid h
  clear h
  go_enter Try.func23, Try.ntmps23
  go_wp2_with fail
  with_reducible refine HP.out.mono ?_
  rintro e w1 ⟨rfl, hP⟩
  by_cases he : X.S.putE id prio (-1) = 0
  · have hs1 := H.out.line hP
    obtain ⟨v1, k1, k2, k3⟩ := hs1
    have d0 := k1.c0
    have hlen : (X.S.put id prio (-1)).q.length ≤ 100000 := by
      unfold Ln.put; rw [if_pos he]
      show (ins _ X.S.q).length ≤ 100000
      rw [(ins_perm _ _).length_eq, List.length_cons]; omega
    have HD := Lib.hid (drop_any id hid w1 k1.ln hlen)
    have K1 := Lib.hid k1
    have K2 := Lib.hid k2
    have K3 := Lib.hid k3
    rw [he]
    clear hP k1 k2 k3 HP c0 c1
    have HE := Lib.hid he
    clear he
    go_wp2_with fail
    with_reducible refine HD.out.mono ?_
    rintro e w2 ⟨rfl, hP⟩
    rw [put_back H.out.ln.ok HE.out] at hP
    have hF := SmP.trans K2.out K3.out (K1.out.line hP)
    have HF : Hid (MayP s g b v X id prio w (.returned (.int .i64 0)) w2) := ⟨by rw [HE.out], by rw [if_pos HE.out]; exact hF⟩
    clear hP hF K1 K2 K3 HD HE H
    go_wp2_with fail
    go_ret
    exact HF.out
  · have HF : Hid (MayP s g b v X id prio w (.returned (.int .i64 (X.S.putE id prio (-1)))) w1) := ⟨rfl, by
      rw [if_neg he]
      have := H.out.line hP
      unfold Ln.put at this
      rw [if_neg he] at this
      exact this⟩
    obtain ⟨E, hE⟩ : ∃ E, E = X.S.putE id prio (-1) := ⟨_, rfl⟩
    rw [← hE] at he HF ⊢
    clear hP HP H c0 c1 hE
    go_wp2_with fail
    go_ret
    exact HF.out
/-- Wait. -/
def WaitP (s g b : Nat) (v : Value) (X : Sm) (id prio til : Int) (w : World) (e : Ending) (w' : World) : Prop := e = .returned (.tuple #[.bool (X.waitE id prio til).1, .int .i64 (X.waitE id prio til).2]) ∧ SmP s g b v (X.wait id prio til) w w'
theorem wait_any {s g b : Nat} {v : Value} {X : Sm} (id prio til : Int) (hid : I64 id) (w : World) (h : SmAt w s g b v X) (hn : X.S.q.length ≤ 900) (hN : X.S.n ≤ 900) (hc : X.c ≤ 255) :
    Calls Try.prog 11 #[.pointer (some ⟨s, 0, none⟩), nV id, nV prio, nV til] w fun e w' => WaitP s g b v X id prio til w e w' := by
  have HM := Lib.hid (may_any id prio hid w h (by omega) (by omega))
  have H := Lib.hid h
  clear h
  go_enter Try.func11, Try.ntmps11
  go_wp2_with fail
  with_reducible refine HM.out.mono ?_
  rintro e w1 ⟨rfl, hP⟩
  clear HM
  by_cases he : X.S.putE id prio (-1) = 0
  · rw [if_pos he] at hP
    rw [he]
    obtain ⟨v1, k1, k2, k3⟩ := hP
    by_cases hc0 : 0 < X.c
    · have hW : X.waitE id prio til = (true, 0) := by unfold Sm.waitE; rw [if_neg (by simp [he]), if_pos hc0]
      have hX : X.wait id prio til = ⟨X.S.bump, X.c - 1, X.m⟩ := by unfold Sm.wait; rw [if_neg (by simp [he]), if_pos hc0]
      have hS := SmP.trans k2 k3 (k1.count (X.c - 1) (z := (X.c : Int) - 1) (by show (X.c : Int) - 1 = ((X.c - 1 : Nat) : Int); omega))
      have d3 := k1.c3
      have f3 := k1.fz 3
      have HF : Hid (WaitP s g b v X id prio til w (.returned (.tuple #[.bool true, .int .i64 0])) (w1.setCell ⟨s, 3, none⟩ (nV ((X.c : Int) - 1)))) := ⟨by rw [hW], by rw [hX]; exact hS⟩
      obtain ⟨c, hcc⟩ : ∃ c : Int, c = (X.c : Int) := ⟨_, rfl⟩
      have i0 : 0 < c := by omega
      have i1 : IntKind.i64.wrap (c - 1) = c - 1 := by rw [IntKind.wrap_i64]; omega
      replace d3 : w1.cell? ⟨s, 3, none⟩ = some (nV c) := by rw [hcc]; exact d3
      rw [← hcc] at HF
      clear k1 k2 k3 hS hX hW H hn hN hc hcc hc0
      go_wp2_with fail
      go_ret2
      exact HF.out
    · have d3 := k1.c3
      have hc1 : X.c = 0 := by omega
      replace d3 : w1.cell? ⟨s, 3, none⟩ = some (nV 0) := by rw [d3]; show some (nV (X.c : Int)) = _; rw [hc1]; rfl
      by_cases ht : til = 0
      · have HF : Hid (WaitP s g b v X id prio til w (.returned (.tuple #[.bool false, .int .i64 0])) w1) := ⟨by unfold Sm.waitE; rw [if_neg (by simp [he]), if_neg hc0, if_pos ht], by
          unfold Sm.wait; rw [if_neg (by simp [he]), if_neg hc0, if_pos ht]; exact ⟨v1, k1, k2, k3⟩⟩
        clear k1 k2 k3 H
        go_wp2_with fail
        go_ret2
        exact HF.out
      · have d1 := k1.c1
        have HP := Lib.hid (put_any id prio til w1 k1.ln (Nat.le_trans hn (by omega)) (show X.S.n + 1 ≤ 1000 by omega))
        have K1 := Lib.hid k1
        have K2 := Lib.hid k2
        have K3 := Lib.hid k3
        have HE := Lib.hid he
        clear k1 k2 k3 H he
        go_wp2_with fail
        with_reducible refine HP.out.mono ?_
        rintro e w2 ⟨rfl, hP⟩
        have hS := SmP.trans K2.out K3.out (K1.out.line hP)
        have HF : Hid (WaitP s g b v X id prio til w (.returned (.tuple #[.bool false, .int .i64 (X.S.bump.putE id prio til)])) w2) := ⟨by unfold Sm.waitE; rw [if_neg (by simp [HE.out]), if_neg hc0, if_neg ht], by
          unfold Sm.wait; rw [if_neg (by simp [HE.out]), if_neg hc0, if_neg ht]; exact hS⟩
        dsimp only
        clear hP hS K1 K2 K3 HP HE
        go_wp2_with fail
        go_ret2
        exact HF.out
  · rw [if_neg he] at hP
    have HF : Hid (WaitP s g b v X id prio til w (.returned (.tuple #[.bool false, .int .i64 (X.S.putE id prio (-1))])) w1) := ⟨by unfold Sm.waitE; rw [if_pos he], by unfold Sm.wait; rw [if_pos he]; exact hP⟩
    obtain ⟨E, hE⟩ : ∃ E, E = X.S.putE id prio (-1) := ⟨_, rfl⟩
    rw [← hE] at he HF ⊢
    clear hP H hE
    go_wp2_with fail
    go_ret2
    exact HF.out
/-- Signal. -/
def SigP (s g b : Nat) (v : Value) (X : Sm) (w : World) (e : Ending) (w' : World) : Prop := e = .returned (.tuple #[nV X.sigE.1, .bool X.sigE.2.1, .int .i64 X.sigE.2.2]) ∧ SmP s g b v X.sig w w'
theorem take_none {S : Ln} (h : S.any = false) : S.take = S := by
  unfold Ln.any at h
  unfold Ln.take
  cases hq : S.q with
  | nil => rfl
  | cons a r => rw [hq] at h; cases h
theorem below_dn' (w : World) (q : Nat) : Below w.heap.size w (w.drewN q) := ⟨rfl, rfl, rfl, Nat.le_refl _, fun _ _ => rfl⟩
theorem signal_any {s g b : Nat} {v : Value} {X : Sm} (w : World) (h : SmAt w s g b v X) (hn : X.S.q.length ≤ 1000) (hc : X.c ≤ 255) :
    Calls Try.prog 13 #[.pointer (some ⟨s, 0, none⟩)] w fun e w' => SigP s g b v X w e w' := by
  have c2 := h.c2
  have HT := Lib.hid (take_any w h.ln (Nat.le_trans hn (by omega)))
  have H := Lib.hid h
  clear h
  go_enter Try.func13, Try.ntmps13
  go_wp2_with fail
  with_reducible refine HT.out.mono ?_
  rintro e w1 ⟨rfl, hP⟩
  have hS := H.out.line hP
  clear HT hP
  cases ha : X.S.any with
  | true =>
    have HF : Hid (SigP s g b v X w (.returned (.tuple #[nV X.S.first, .bool true, .int .i64 0])) w1) := ⟨by unfold Sm.sigE; rw [if_pos ha], by unfold Sm.sig; rw [if_pos ha]; exact hS⟩
    clear hS H
    go_wp2_with fail
    go_ret3
    exact HF.out
  | false =>
    rw [take_none ha] at hS
    have hna : ¬ X.S.any = true := by rw [ha]; simp
    obtain ⟨v1, k1, k2, k3⟩ := hS
    have d3 := k1.c3
    have d4 := k1.c4
    have f3 := k1.fz 3
    by_cases hm : X.c = X.m
    · have HF : Hid (∀ W, Below w1.heap.size w1 W → SigP s g b v X w (.returned (.tuple #[nV 0, .bool false, .int .i64 151])) W) := fun W hB => ⟨by unfold Sm.sigE; rw [if_neg hna, if_pos hm], by unfold Sm.sig; rw [if_neg hna, if_pos hm]; exact SmP.trans k2 k3 (SmP.below k1 hB)⟩
      replace d3 : w1.cell? ⟨s, 3, none⟩ = some (nV X.m) := by rw [d3]; show some (nV (X.c : Int)) = _; rw [hm]
      replace d4 : w1.cell? ⟨s, 4, none⟩ = some (nV X.m) := d4
      obtain ⟨m, hmm⟩ : ∃ m : Int, m = (X.m : Int) := ⟨_, rfl⟩
      rw [← hmm] at d3 d4
      clear k1 k2 k3 H c2
      go_wp2_with fail
      go_quiet (fail)
      go_wp2_with fail
      go_ret3
      exact HF.out _ (below_dn' _ _)
    · have HF : Hid (∀ W, Below w1.heap.size w1 W → SigP s g b v X w (.returned (.tuple #[nV 0, .bool false, .int .i64 0])) (W.setCell ⟨s, 3, none⟩ (nV ((X.c : Int) + 1)))) := fun W hB => ⟨by unfold Sm.sigE; rw [if_neg hna, if_neg hm], by
        unfold Sm.sig; rw [if_neg hna, if_neg hm]
        exact SmP.trans (k2.trans (Chg.of_below hB)) (slid_trans k3 (.inl rfl) k2.size) ((k1.keep hB).count (X.c + 1) (z := (X.c : Int) + 1) (by show (X.c : Int) + 1 = ((X.c + 1 : Nat) : Int); omega))⟩
      obtain ⟨c, hcc⟩ : ∃ c : Int, c = (X.c : Int) := ⟨_, rfl⟩
      obtain ⟨m, hmm⟩ : ∃ m : Int, m = (X.m : Int) := ⟨_, rfl⟩
      have i0 : ¬ c = m := by omega
      have i1 : IntKind.i64.wrap (c + 1) = c + 1 := by rw [IntKind.wrap_i64]; omega
      replace d3 : w1.cell? ⟨s, 3, none⟩ = some (nV c) := by rw [hcc]; exact d3
      replace d4 : w1.cell? ⟨s, 4, none⟩ = some (nV m) := by rw [hmm]; exact d4
      rw [← hcc] at HF
      clear k1 k2 k3 H c2 hcc hmm hn hc hm
      go_wp2_with fail
      go_quiet (fail)
      go_wp2_with fail
      go_ret3
      exact HF.out _ (below_dn' _ _)
end Go.Proofs.Ytfinleobgmdebaa
