/-
  An event: pure, and in memory; New, Up, Reset, mayWait, Wait.
-/
import Derived.Test.YtndipldcpnglgaaAddO
import Derived.Test.YtndipldcpnglgaaListW
import Derived.Handy
namespace Go.Proofs.Ytndipldcpnglgaa
open Go.RowKit

/-- An event: its line; up or down. -/
structure Ev where
  S : Ln
  up : Bool
def Ln.bump (S : Ln) : Ln := { S with n := S.n + 1 }
def Ln.clear (S : Ln) : Ln := { S with q := [] }
def Ev.waitE (X : Ev) (id prio til : Int) : Bool × Int :=
  if X.S.putE id prio (-1) ≠ 0 then (false, X.S.putE id prio (-1)) else if X.up = true then (true, 0) else if til = 0 then (false, 0) else (false, X.S.bump.putE id prio til)
def Ev.wait (X : Ev) (id prio til : Int) : Ev :=
  if X.S.putE id prio (-1) ≠ 0 then X else if X.up = true then ⟨X.S.bump, X.up⟩ else if til = 0 then ⟨X.S.bump, X.up⟩ else ⟨X.S.bump.put id prio til, X.up⟩
theorem ok_bump {S : Ln} (h : Ok S) : Ok S.bump := ⟨h.ord, h.ids, fun a ha => Nat.lt_succ_of_lt (h.arr a ha), h.pri, h.til, h.tick⟩
/-- Put, and taken back: nobody more waits. -/
theorem put_back {S : Ln} (ok : Ok S) {id prio til : Int} (h : S.putE id prio til = 0) : (S.put id prio til).drop id = S.bump := by
  obtain ⟨h1, h2, h3, h4⟩ := putE_ok h
  have hv := toId_val h1
  have hp : (S.put id prio til) = { S with q := ins ⟨toId id, prio, til, S.n⟩ S.q, n := S.n + 1 } := by unfold Ln.put; rw [if_pos h]
  have hh : (S.put id prio til).has id = true := by
    rw [hp]; exact has_iff.2 ⟨_, ins_mem.2 (.inl rfl), hv⟩
  unfold Ln.drop
  rw [if_pos hh, hp]
  unfold Ln.without Ln.bump
  congr 1
  show (ins _ S.q).filter _ = S.q
  have hq : ∀ a ∈ S.q, (!decide (a.id = toId id)) = true := fun a ha => by
    simp only [Bool.not_eq_true', decide_eq_false_iff_not]
    intro e
    have : S.has id = true := has_iff.2 ⟨a, ha, by rw [e]; exact hv⟩
    rw [h4] at this; cases this
  obtain ⟨e1, e2⟩ := filter_ins (x := ⟨toId id, prio, til, S.n⟩) ok.ord _ rfl
  unfold ins
  rw [List.filter_append, List.filter_cons_of_neg (by simp), ← List.filter_append, ← e1, ← e2, List.take_append_drop]
  exact List.filter_eq_self.2 hq

/-- An event at block s, its line at block g. -/
structure EvAt (w : World) (s g b : Nat) (v : Value) (X : Ev) : Prop where
  c0 : w.cell? ⟨s, 0, none⟩ = some (.iface 61 (.pointer (some ⟨g, 0, none⟩)))
  c1 : w.cell? ⟨s, 1, none⟩ = some (.iface 61 (.pointer (some ⟨g, 0, none⟩)))
  c2 : w.cell? ⟨s, 2, none⟩ = some (.bool X.up)
  fz : ∀ j, w.frozen? ⟨s, j, none⟩ = false
  ln : LnAt w g b v X.S
  ns : ¬ Blk g b v s
/-- The blocks of an event. -/
def SBlk (s g b : Nat) (v : Value) (k : Nat) : Prop := k = s ∨ Blk g b v k
section
variable {w w' : World} {s g b : Nat} {v : Value} {X : Ev}
theorem EvAt.lts (h : EvAt w s g b v X) : s < w.heap.size := cell_lt h.c0
theorem EvAt.blk_lt (h : EvAt w s g b v X) {k : Nat} (hk : SBlk s g b v k) : k < w.heap.size := by
  rcases hk with rfl | hk
  · exact h.lts
  · exact h.ln.blk_lt hk
theorem EvAt.same (h : EvAt w s g b v X) (e : ∀ k, SBlk s g b v k → w'.heap[k]? = w.heap[k]?) : EvAt w' s g b v X := by
  have es := e s (.inl rfl)
  refine ⟨?_, ?_, ?_, fun j => ?_, h.ln.same fun k hk => e k (.inr hk), h.ns⟩
  · rw [World.cell?_of_block (w := w) es]; exact h.c0
  · rw [World.cell?_of_block (w := w) es]; exact h.c1
  · rw [World.cell?_of_block (w := w) es]; exact h.c2
  · rw [World.frozen?_of_block (w := w) es]; exact h.fz j
theorem EvAt.keep (h : EvAt w s g b v X) (hB : Below w.heap.size w w') : EvAt w' s g b v X := h.same fun _ hk => hB.block _ (h.blk_lt hk)
theorem EvAt.chg {T : Nat → Prop} (h : EvAt w s g b v X) (hC : Chg T w w') (hT : ∀ k, SBlk s g b v k → ¬ T k) : EvAt w' s g b v X := h.same fun k hk => hC.block _ (h.blk_lt hk) (hT k hk)
end
/-- Behind a call on an event. -/
def EvP (s g b : Nat) (v : Value) (X' : Ev) (w w' : World) : Prop := ∃ v', EvAt w' s g b v' X' ∧ Chg (SBlk s g b v) w w' ∧ Slid v v' w
/-- .. where only its line was called. -/
theorem EvAt.line {w w' : World} {s g b : Nat} {v : Value} {X : Ev} {S' : Ln} (h : EvAt w s g b v X) (hP : LnP g b v S' w w') : EvP s g b v ⟨S', X.up⟩ w w' := by
  obtain ⟨v', h1, h2, h3⟩ := hP
  have hs : s < w.heap.size := h.lts
  refine ⟨v', ⟨h2.cell h.c0 h.ns, h2.cell h.c1 h.ns, h2.cell h.c2 h.ns, fun j => (h2.frozen (a := ⟨s, j, none⟩) hs h.ns).trans (h.fz j), h1, fun hb => ?_⟩, h2.mono fun k hk => .inr hk, h3⟩
  rcases hb with e | e | e
  · exact h.ns (.inl e)
  · exact h.ns (.inr (.inl e))
  · rcases h3 with h3 | ⟨x, e1, e2⟩
    · exact h.ns (.inr (.inr (by rw [← h3]; exact e)))
    · rw [e1] at e; injection e with e; omega
theorem EvP.refl {w : World} {s g b : Nat} {v : Value} {X : Ev} (h : EvAt w s g b v X) : EvP s g b v X w w := ⟨v, h, Chg.refl w, .inl rfl⟩
theorem EvP.below {w w' : World} {s g b : Nat} {v : Value} {X : Ev} (h : EvAt w s g b v X) (hB : Below w.heap.size w w') : EvP s g b v X w w' := ⟨v, h.keep hB, Chg.of_below hB, .inl rfl⟩
theorem EvP.trans {w w' w'' : World} {s g b : Nat} {v v' : Value} {X' : Ev} (h : Chg (SBlk s g b v) w w') (hs : Slid v v' w) (k : EvP s g b v' X' w' w'') : EvP s g b v X' w w'' := by
  obtain ⟨v'', k1, k2, k3⟩ := k
  refine ⟨v'', k1, h.trans' k2 fun i hi hb => ?_, slid_trans hs k3 h.size⟩
  rcases hb with e | e | e | e
  · exact .inl e
  · exact .inr (.inl e)
  · exact .inr (.inr (.inl e))
  · rcases hs with hs | ⟨x, h1, h2⟩
    · exact .inr (.inr (.inr (by rw [← hs]; exact e)))
    · rw [h1] at e; injection e with e; omega
/-- .. where it was made up or down. -/
theorem EvAt.turn {w : World} {s g b : Nat} {v : Value} {X : Ev} (h : EvAt w s g b v X) (z : Bool) : EvP s g b v ⟨X.S, z⟩ w (w.setCell ⟨s, 2, none⟩ (.bool z)) := by
  have hC : Chg (fun k => k = s) w (w.setCell ⟨s, 2, none⟩ (.bool z)) := Chg.set (S := fun k => k = s) (a := ⟨s, 2, none⟩) (Chg.refl w) rfl _
  have hq : ∀ j, j ≠ 2 → (w.setCell ⟨s, 2, none⟩ (.bool z)).cell? ⟨s, j, none⟩ = w.cell? ⟨s, j, none⟩ := fun j hj => World.cell?_setCell_other _ _ _ _ (by intro e; simp only [Addr.mk.injEq] at e; omega)
  refine ⟨v, ⟨?_, ?_, ?_, fun j => ?_, h.ln.chg hC fun k hk e => h.ns (e ▸ hk), h.ns⟩, hC.mono fun k hk => .inl hk, .inl rfl⟩
  · rw [hq 0 (by decide)]; exact h.c0
  · rw [hq 1 (by decide)]; exact h.c1
  · exact World.cell?_setCell_same _ _ _ h.c2
  · rw [World.frozen?_setCell]; exact h.fz j

def NewP (up : Bool) (w : World) (e : Ending) (w' : World) : Prop := ∃ s g b, e = .returned (.pointer (some ⟨s, 0, none⟩)) ∧ EvAt w' s g b (.slice none 0 0) ⟨Ln.new, up⟩ ∧ (∀ k, SBlk s g b (.slice none 0 0) k → w.heap.size ≤ k) ∧ Below w.heap.size w w'
theorem enew_any (up : Bool) (w : World) : Calls Try.prog 7 #[.bool up] w fun e w' => NewP up w e w' := by
  have hnew := Lib.hid (fun W => new_any W)
  go_enter Try.func7, Try.ntmps7
  go_wp2_with fail
  with_reducible refine (hnew.out _).mono ?_
  rintro e w1 ⟨rfl, hL, hB⟩
  have L0 := Lib.hid hL
  have HB := Lib.hid hB
  clear hL hB
  go_wp2_with fail
  go_ret
  have hlg := L0.out.ltg
  have hlb := L0.out.ltb
  refine ⟨w1.heap.size, w.heap.size + 1, w.heap.size, rfl, ⟨al_new _ _ _ 0 _ rfl rfl, al_new _ _ _ 1 _ rfl rfl, al_new _ _ _ 2 _ rfl rfl, fun j => frozen_at _ _ _ _ _ rfl, L0.out.keep ((Below.refl _ _).alloc (Nat.le_refl _) _), fun hb => ?_⟩, fun k hk => ?_, HB.out.trans (((Below.refl _ _).alloc (Nat.le_refl _) _).mono HB.out.size)⟩
  · have := L0.out.blk_lt hb; omega
  · rcases hk with e | e | e | e
    · have := HB.out.size; omega
    · omega
    · omega
    · cases e
theorem up_any {s g b : Nat} {v : Value} {X : Ev} (w : World) (h : EvAt w s g b v X) : Calls Try.prog 17 #[.pointer (some ⟨s, 0, none⟩)] w fun e w' => e = .returned (.bool X.up) ∧ w = w' := by
  have c2 := h.c2
  clear h
  go_enter Try.func17, Try.ntmps17
  go_wp2_with fail
  go_ret
  exact ⟨rfl, rfl⟩
/-- Reset. -/
def ResP (s g b : Nat) (v : Value) (X : Ev) (w : World) (_ : Ending) (w' : World) : Prop := EvP s g b v ⟨X.S, false⟩ w w'
theorem reset_any {s g b : Nat} {v : Value} {X : Ev} (w : World) (h : EvAt w s g b v X) : Calls Try.prog 14 #[.pointer (some ⟨s, 0, none⟩)] w fun e w' => e = .returned (.tuple #[]) ∧ ResP s g b v X w e w' := by
  have c2 := h.c2
  have f2 := h.fz 2
  have HF : Hid (ResP s g b v X w (.returned (.tuple #[])) (w.setCell ⟨s, 2, none⟩ (.bool false))) := h.turn false
  clear h
  go_enter Try.func14, Try.ntmps14
  go_wp2_with fail
  go_end0
  exact ⟨rfl, HF.out⟩
/-- mayWait. -/
def MayP (s g b : Nat) (v : Value) (X : Ev) (id prio : Int) (w : World) (e : Ending) (w' : World) : Prop := e = .returned (.int .i64 (X.S.putE id prio (-1))) ∧ EvP s g b v (if X.S.putE id prio (-1) = 0 then ⟨X.S.bump, X.up⟩ else X) w w'
theorem may_any {s g b : Nat} {v : Value} {X : Ev} (id prio : Int) (hid : I64 id) (w : World) (h : EvAt w s g b v X) (hn : X.S.q.length ≤ 1000) (hN : X.S.n ≤ 1000) :
    Calls Try.prog 21 #[.pointer (some ⟨s, 0, none⟩), nV id, nV prio] w fun e w' => MayP s g b v X id prio w e w' := by
  have c1 := h.c1
  have HP := Lib.hid (put_any id prio (-1) w h.ln hn hN)
  have H := Lib.hid h
  clear h
  go_enter Try.func21, Try.ntmps21
  go_wp2_with fail
  with_reducible refine HP.out.mono ?_
  rintro e w1 ⟨rfl, hP⟩
  by_cases he : X.S.putE id prio (-1) = 0
  · have hs1 := H.out.line hP
    obtain ⟨v1, k1, k2, k3⟩ := hs1
    have d0 := k1.c0
    have hlen : (X.S.put id prio (-1)).q.length ≤ 100000 := by
      unfold Ln.put; rw [if_pos he]
      show (ins _ X.S.q).length ≤ 100000
      rw [(ins_perm _ _).length_eq, List.length_cons]; omega
    have HD := Lib.hid (drop_any id hid w1 k1.ln hlen)
    have K1 := Lib.hid k1
    have K2 := Lib.hid k2
    have K3 := Lib.hid k3
    rw [he]
    clear hP k1 k2 k3 HP c1
    have HE := Lib.hid he
    clear he
    go_wp2_with fail
    with_reducible refine HD.out.mono ?_
    rintro e w2 ⟨rfl, hP⟩
    rw [put_back H.out.ln.ok HE.out] at hP
    have hF := EvP.trans K2.out K3.out (K1.out.line hP)
    have HF : Hid (MayP s g b v X id prio w (.returned (.int .i64 0)) w2) := ⟨by rw [HE.out], by rw [if_pos HE.out]; exact hF⟩
    clear hP hF K1 K2 K3 HD HE H
    go_wp2_with fail
    go_ret
    exact HF.out
  · have HF : Hid (MayP s g b v X id prio w (.returned (.int .i64 (X.S.putE id prio (-1)))) w1) := ⟨rfl, by
      rw [if_neg he]
      have := H.out.line hP
      unfold Ln.put at this
      rw [if_neg he] at this
      exact this⟩
    obtain ⟨E, hE⟩ : ∃ E, E = X.S.putE id prio (-1) := ⟨_, rfl⟩
    rw [← hE] at he HF ⊢
    clear hP HP H c1 hE
    go_wp2_with fail
    go_ret
    exact HF.out
/-- Wait. -/
def WaitP (s g b : Nat) (v : Value) (X : Ev) (id prio til : Int) (w : World) (e : Ending) (w' : World) : Prop := e = .returned (.tuple #[.bool (X.waitE id prio til).1, .int .i64 (X.waitE id prio til).2]) ∧ EvP s g b v (X.wait id prio til) w w'
theorem wait_any {s g b : Nat} {v : Value} {X : Ev} (id prio til : Int) (hid : I64 id) (w : World) (h : EvAt w s g b v X) (hn : X.S.q.length ≤ 900) (hN : X.S.n ≤ 900) :
    Calls Try.prog 10 #[.pointer (some ⟨s, 0, none⟩), nV id, nV prio, nV til] w fun e w' => WaitP s g b v X id prio til w e w' := by
  have HM := Lib.hid (may_any id prio hid w h (by omega) (by omega))
  have H := Lib.hid h
  clear h
  go_enter Try.func10, Try.ntmps10
  go_wp2_with fail
  with_reducible refine HM.out.mono ?_
  rintro e w1 ⟨rfl, hP⟩
  clear HM
  by_cases he : X.S.putE id prio (-1) = 0
  · rw [if_pos he] at hP
    rw [he]
    obtain ⟨v1, k1, k2, k3⟩ := hP
    cases hu : X.up with
    | true =>
      have hW : X.waitE id prio til = (true, 0) := by unfold Ev.waitE; rw [if_neg (by simp [he]), if_pos hu]
      have hX : X.wait id prio til = ⟨X.S.bump, X.up⟩ := by unfold Ev.wait; rw [if_neg (by simp [he]), if_pos hu]
      have d2 := k1.c2
      replace d2 : w1.cell? ⟨s, 2, none⟩ = some (.bool true) := by rw [d2]; show some (Value.bool X.up) = _; rw [hu]
      have HF : Hid (WaitP s g b v X id prio til w (.returned (.tuple #[.bool true, .int .i64 0])) w1) := ⟨by rw [hW], by rw [hX]; exact ⟨v1, k1, k2, k3⟩⟩
      clear k1 k2 k3 hX hW H hn hN hu
      go_wp2_with fail
      go_ret2
      exact HF.out
    | false =>
      have hu' : ¬ X.up = true := by rw [hu]; simp
      have d2 := k1.c2
      replace d2 : w1.cell? ⟨s, 2, none⟩ = some (.bool false) := by rw [d2]; show some (Value.bool X.up) = _; rw [hu]
      by_cases ht : til = 0
      · have HF : Hid (WaitP s g b v X id prio til w (.returned (.tuple #[.bool false, .int .i64 0])) w1) := ⟨by unfold Ev.waitE; rw [if_neg (by simp [he]), if_neg hu', if_pos ht], by
          unfold Ev.wait; rw [if_neg (by simp [he]), if_neg hu', if_pos ht]; exact ⟨v1, k1, k2, k3⟩⟩
        clear k1 k2 k3 H hu hu'
        go_wp2_with fail
        go_ret2
        exact HF.out
      · have d1 := k1.c1
        have HP := Lib.hid (put_any id prio til w1 k1.ln (Nat.le_trans hn (by omega)) (show X.S.n + 1 ≤ 1000 by omega))
        have K1 := Lib.hid k1
        have K2 := Lib.hid k2
        have K3 := Lib.hid k3
        have HE := Lib.hid he
        have HU := Lib.hid hu'
        clear k1 k2 k3 H he hu hu'
        go_wp2_with fail
        with_reducible refine HP.out.mono ?_
        rintro e w2 ⟨rfl, hP⟩
        have hS := EvP.trans K2.out K3.out (K1.out.line hP)
        have HF : Hid (WaitP s g b v X id prio til w (.returned (.tuple #[.bool false, .int .i64 (X.S.bump.putE id prio til)])) w2) := ⟨by unfold Ev.waitE; rw [if_neg (by simp [HE.out]), if_neg HU.out, if_neg ht], by
          unfold Ev.wait; rw [if_neg (by simp [HE.out]), if_neg HU.out, if_neg ht]; exact hS⟩
        dsimp only
        clear hP hS K1 K2 K3 HP HE HU
        go_wp2_with fail
        go_ret2
        exact HF.out
  · rw [if_neg he] at hP
    have HF : Hid (WaitP s g b v X id prio til w (.returned (.tuple #[.bool false, .int .i64 (X.S.putE id prio (-1))])) w1) := ⟨by unfold Ev.waitE; rw [if_pos he], by unfold Ev.wait; rw [if_pos he]; exact hP⟩
    obtain ⟨E, hE⟩ : ∃ E, E = X.S.putE id prio (-1) := ⟨_, rfl⟩
    rw [← hE] at he HF ⊢
    clear hP H hE
    go_wp2_with fail
    go_ret2
    exact HF.out
end Go.Proofs.Ytndipldcpnglgaa
