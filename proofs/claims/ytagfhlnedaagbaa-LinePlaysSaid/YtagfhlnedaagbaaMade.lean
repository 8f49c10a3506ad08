/-
  A line on which calls were done.
-/
import Derived.Test.YtagfhlnedaagbaaDoesB
import Derived.Test.YtagfhlnedaagbaaDoesE
import Derived.Test.YtagfhlnedaagbaaOpenX
namespace Go.Proofs.Ytagfhlnedaagbaa
open Go.RowKit

theorem put_len (S : Ln) (id prio til : Int) : (S.put id prio til).q.length ≤ S.q.length + 1 ∧ (S.put id prio til).n ≤ S.n + 1 := by
  unfold Ln.put
  split
  · exact ⟨by show (ins _ S.q).length ≤ _; rw [(ins_perm _ _).length_eq, List.length_cons]; exact Nat.le_refl _, Nat.le_refl _⟩
  · exact ⟨Nat.le_succ _, Nat.le_succ _⟩
theorem without_len (S : Ln) (i : Id) : (S.without i).q.length ≤ S.q.length ∧ (S.without i).n = S.n := ⟨List.length_filter_le _ _, rfl⟩
theorem take_len (S : Ln) : S.take.q.length ≤ S.q.length ∧ S.take.n = S.n := by
  unfold Ln.take; split
  · exact ⟨Nat.le_refl _, rfl⟩
  · exact without_len _ _
theorem drop_len (S : Ln) (id : Int) : (S.drop id).q.length ≤ S.q.length ∧ (S.drop id).n = S.n := by
  unfold Ln.drop; split
  · exact without_len _ _
  · exact ⟨Nat.le_refl _, rfl⟩
theorem expire_len (S : Ln) (t : Int) : (S.expire t).q.length ≤ S.q.length ∧ (S.expire t).n = S.n := by
  unfold Ln.expire; split
  · exact ⟨List.length_filter_le _ _, rfl⟩
  · exact ⟨Nat.le_refl _, rfl⟩
theorem any_len {S : Ln} (h : S.any = true) : 0 < S.q.length := by
  unfold Ln.any at h
  cases hq : S.q with
  | nil => rw [hq] at h; cases h
  | cons a r => simp
theorem any_not {S : Ln} (h : ¬ S.any = true) : S.q.length = 0 := by
  unfold Ln.any at h
  cases hq : S.q with
  | nil => rfl
  | cons a r => rw [hq] at h; exact absurd rfl h

theorem act_len (S : Ln) (y : CallA) : (S.act y).q.length ≤ S.q.length + 1 ∧ (S.act y).n ≤ S.n + 1 := by
  unfold Ln.act
  split
  · exact put_len _ _ _ _
  · split
    · have := take_len S; omega
    · split
      · have := drop_len S y.2.1; omega
      · split
        · have := expire_len S y.2.2.2; omega
        · omega
set_option maxRecDepth 100000 in
set_option maxHeartbeats 8000000 in
theorem does_other {g b : Nat} {v : Value} {S : Ln} (y0 y1 y2 y3 : Int) (w : World) (h : LnAt w g b v S) (h0 : ¬ y0 = 0) (h1 : ¬ y0 = 1) (h2 : ¬ y0 = 2) (h3 : ¬ y0 = 3) :
    Calls Try.prog 10 #[.pointer (some ⟨g, 0, none⟩), .agg #[.slice none 0 0, nV 0], .agg #[nV y0, nV y1, nV y2, nV y3]] w fun e w' => DoP g b v S w e w' := by
  have H := Lib.hid h
  clear h
  go_enter Try.func10, Try.ntmps10
  go_wp2_with fail
  go_returns
  exact ⟨_, _, rfl, LnP.below H.out ((((Below.refl _ _).alloc (Nat.le_refl _) _).alloc (by simp) _).alloc (by simp; omega) _)⟩
theorem does_any {g b : Nat} {v : Value} {S : Ln} (y : CallA) (hy : WfCall y) (w : World) (h : LnAt w g b v S) (hn : S.q.length ≤ 1000) (hN : S.n ≤ 1000) :
    Calls Try.prog 10 #[.pointer (some ⟨g, 0, none⟩), .agg #[.slice none 0 0, nV 0], .agg #[nV y.1, nV y.2.1, nV y.2.2.1, nV y.2.2.2]] w fun e w' => DoP g b v (S.act y) w e w' := by
  obtain ⟨y0, y1, y2, y3⟩ := y
  unfold Ln.act
  dsimp only
  by_cases h0 : y0 = 0
  · subst h0
    exact does_put y1 y2 y3 w h hn hN
  · rw [if_neg h0]
    by_cases h1 : y0 = 1
    · subst h1
      exact does_take y1 y2 y3 w h hn
    · rw [if_neg h1]
      by_cases h2 : y0 = 2
      · subst h2
        exact does_drop y1 y2 y3 hy.2.1 w h hn
      · rw [if_neg h2]
        by_cases h3 : y0 = 3
        · subst h3
          exact does_exp y1 y2 y3 w h hn
        · rw [if_neg h3]
          exact does_other y0 y1 y2 y3 w h h0 h1 h2 h3
def MadeP (w : World) (e : Ending) (w' : World) : Prop := ∃ g b v S, e = .returned (.pointer (some ⟨g, 0, none⟩)) ∧ LB w.heap.size w w' g b v S ∧ S.q.length ≤ 60 ∧ S.n ≤ 60
set_option maxRecDepth 100000 in
set_option maxHeartbeats 8000000 in
theorem made_any (A : Option Addr) (c : Nat) (cs : List CallA) (w : World) (hwf : ∀ y ∈ cs, WfCall y) (hA : CallsAt w A cs) :
    Calls Try.prog 16 #[.slice A cs.length c] w fun e w' => MadeP w e w' := by
  have hnew := Lib.hid (fun W => new_any W)
  have HCS := Lib.hid hA
  have HWF := Lib.hid hwf
  clear hA hwf
  go_enter Try.func16, Try.ntmps16
  go_wp2_with fail
  with_reducible refine (hnew.out _).mono ?_
  rintro e w1 ⟨rfl, hL, hB⟩
  have L0 := LB.new hL (by omega) (Nat.le_refl _) hB
  obtain ⟨g, hg⟩ : ∃ g, g = w.heap.size + 1 := ⟨_, rfl⟩
  rw [← hg] at L0 ⊢
  clear hL hB hg hnew
  have HL0 : Hid (∃ b v S, LB w.heap.size w w1 g b v S ∧ S.q.length ≤ 0 ∧ S.n ≤ 0) := ⟨_, _, _, L0, Nat.le_refl _, Nat.le_refl _⟩
  clear L0
  go_wp2_with fail
  go_loopw [4] (fun kv wr => ∃ k : Nat, kv = .int .i64 k ∧ k ≤ 60 ∧ Hid (∃ b v S, LB w.heap.size w wr g b v S ∧ S.q.length ≤ k ∧ S.n ≤ k)) (fun kv _ => 61 - (intOf kv).toNat)
  case atStart => exact ⟨0, rfl, Nat.zero_le _, HL0⟩
  case round =>
    obtain ⟨k, rfl, hk, HK⟩ := hrel
    clear HL0
    have i0 : (0 : Int) ≤ (k : Int) := Int.natCast_nonneg _
    by_cases hlt : k < cs.length ∧ k < 60
    · obtain ⟨hl1, hl2⟩ := hlt
      obtain ⟨b, v, S, hLB, hq, hN⟩ := HK.out
      obtain ⟨bb, oo, rfl, hcc⟩ : ∃ bb oo, A = some ⟨bb, oo, none⟩ ∧ ∀ j u, (xC (cs.getD k dX))[j]? = some u → wr.cell? ⟨bb, oo + k * 4 + j, none⟩ = some u := by
        obtain ⟨bb, oo, e⟩ := Arr.head HCS.out hl1
        subst e
        exact ⟨bb, oo, rfl, fun j u hu => Arr.at (Arr.keep HCS.out hLB.bel) hl1 hu⟩
      obtain ⟨y, hy⟩ : ∃ y, y = cs.getD k dX := ⟨_, rfl⟩
      have hwfy : WfCall y := by
        rw [hy, List.getD_eq_getElem?_getD, List.getElem?_eq_getElem hl1]
        exact HWF.out _ (List.getElem_mem hl1)
      rw [← hy] at hcc
      have c0 : wr.cell? ⟨bb, oo + k * 4, none⟩ = some (nV y.1) := hcc 0 _ rfl
      have c1 := hcc 1 _ rfl
      have c2 := hcc 2 _ rfl
      have c3 := hcc 3 _ rfl
      have HC := Lib.hid (does_any y hwfy wr hLB.ln (by omega) (by omega))
      have HX := Lib.hid (And.intro hLB (And.intro hq hN))
      have i1 : (k : Int) < (cs.length : Int) := by omega
      have i2 : (k : Int) < 60 := by omega
      clear hcc hy hwfy hLB hq hN HK
      obtain ⟨y0, y1, y2, y3⟩ := y
      dsimp only at c0 c1 c2 c3 HC
      go_wp2_with fail
      with_reducible refine HC.out.mono ?_
      rintro e w3 ⟨r, ok, rfl, hP⟩
      obtain ⟨hLB, hq, hN⟩ := HX.out
      obtain ⟨v', hL', _⟩ := hLB.step hP
      have hal := act_len S (y0, y1, y2, y3)
      have HF : Hid (∃ b v S, LB w.heap.size w w3 g b v S ∧ S.q.length ≤ k + 1 ∧ S.n ≤ k + 1) := ⟨b, v', _, hL', by omega, by omega⟩
      clear HC HX hP hLB hq hN hL' hal
      go_wp2_with fail
      go_roundw
      case rel => exact ⟨k + 1, by go_num, by omega, HF⟩
      case measure => first | (simp [intOf]; done) | (simp [intOf]; omega)
    · have HX : Hid (MadeP w (.returned (.pointer (some ⟨g, 0, none⟩))) wr) := by
        obtain ⟨b, v, S, h1, h2, h3⟩ := HK.out
        exact ⟨g, b, v, S, rfl, h1, by omega, by omega⟩
      have hex : k < 60 → ¬ (k : Int) < (cs.length : Int) := fun h => by omega
      clear hlt HK
      go_wp2_with fail
      all_goals go_ret
      all_goals exact HX.out
end Go.Proofs.Ytagfhlnedaagbaa
