/-
  A change of one process, in general; Start, Stop, Block, Wake, Suspend, Resume, Raise, Yield.
-/
import Derived.Test.YtkbafiepnnldeaaSetW
namespace Go.Proofs.Ytkbafiepnnldeaa
open Go.RowKit

theorem gone_cons_len {a : Int} : ∀ {q : List Int}, q.Nodup → q.length ≤ (gone q a).length + 1
  | [], _ => Nat.zero_le _
  | b :: r, h => by
    have hn := List.nodup_cons.1 h
    by_cases e : b = a
    · subst e
      have : gone (b :: r) b = gone r b := by unfold gone; rw [List.filter_cons_of_neg (by simp)]
      rw [this, gone_same hn.1, List.length_cons]
      exact Nat.le_refl _
    · have : gone (b :: r) a = b :: gone r a := by unfold gone; rw [List.filter_cons_of_pos (by simp [e])]
      rw [this, List.length_cons, List.length_cons]
      have := gone_cons_len (a := a) hn.2
      omega
theorem nodup_len : ∀ (n : Nat) (q : List Int), q.Nodup → (∀ x ∈ q, 0 ≤ x ∧ x < (n : Int)) → q.length ≤ n
  | 0, q, _, h => by
    cases q with
    | nil => exact Nat.le_refl _
    | cons a r => have := h a List.mem_cons_self; omega
  | n + 1, q, hn, h => by
    have ih := nodup_len n (gone q (n : Int)) (gone_nd hn _) fun x hx => by
      have h1 := mem_gone.1 hx
      have := h x h1.1
      omega
    have := gone_cons_len (a := (n : Int)) hn
    omega
theorem q_len {T : Tb} (h : TOk T) : T.q.length ≤ 16 := by
  have := nodup_len T.l.length T.q h.nd fun x hx => ((h.mem x).1 hx).1
  have := h.most
  omega

def chgE (T : Tb) (i : Int) (rq : Pr → Bool) : Int := if ¬ T.has i then 170 else if rq (atP T.l i) = true then 0 else 171
theorem TbAt.become {w w' : World} {g bi ba ci k : Nat} {v : Value} {T : Tb} {p : Pr} (h : TbAt w g bi ba ci v T) (hb : BecP ba T.l k p w w') : TbAt w' g bi ba ci v ⟨T.first, T.l.set k p, T.q⟩ := by
  obtain ⟨h1, h2⟩ := hb
  have hl : (T.l.set k p).length = T.l.length := List.length_set
  refine ⟨?_, ?_, h2.cell h.c2 h.n2, fun j => (h2.frozen (a := ⟨g, j, none⟩) h.ltg h.n2).trans (h.fz j), fun i hi => h2.cell (h.first i (by rw [← hl]; exact hi)) h.n3, h1, h.row.chg h2 fun x hx e => h.n6 (e ▸ hx), h.n1, h.n2, h.n3, h.n4, h.n5, h.n6, by show 0 < (T.l.set k p).length; rw [hl]; exact h.pos⟩
  · rw [show (Tb.mk T.first (T.l.set k p) T.q).l.length = T.l.length from hl]; exact h2.cell h.c0 h.n2
  · rw [show (Tb.mk T.first (T.l.set k p) T.q).l.length = T.l.length from hl]; exact h2.cell h.c1 h.n2
def ChgP (g bi ba ci : Nat) (v : Value) (T : Tb) (E : Int) (T' : Tb) (w : World) (e : Ending) (w' : World) : Prop := e = .returned (nV E) ∧ TbP g bi ba ci v (if E = 0 then T' else T) w w'
set_option maxHeartbeats 2000000 in
theorem change_any {g bi ba ci : Nat} {v : Value} {T : Tb} (i : Int) (K1 K2 : FuncId) (cp : Array Value) (rq : Pr → Bool) (p' : Pr) (w : World) (h : TbAt w g bi ba ci v T) (ok : TOk T) (h1 : Enters K1) (h2 : Enters K2)
    (hreq : ∀ p W, Calls Try.prog K1 #[pV p] W fun e w' => qP (rq p) W e w')
    (hbec : ∀ (k : Nat) W, i = (k : Int) → k < T.l.length → TbAt W g bi ba ci v T → Below w.heap.size w W → Calls Try.prog K2 (#[.pointer (some ⟨ba, k * 3, none⟩)] ++ cp) W fun e w' => e = .returned (.tuple #[]) ∧ BecP ba T.l k p' W w') :
    Calls Try.prog 36 #[.pointer (some ⟨g, 0, none⟩), nV i, .func (.func K1) #[] #[], .func (.func K2) #[] cp] w fun e w' => ChgP g bi ba ci v T (chgE T i rq) (T.put i p') w e w' := by
  have HH := Lib.hid (has_any i w h)
  have e1 := h1
  have e2 := h2
  unfold Enters at e1 e2
  clear h1 h2
  by_cases hi : T.has i
  · obtain ⟨k, hk⟩ : ∃ k : Nat, i = (k : Int) := ⟨i.toNat, by have := hi.1; omega⟩
    subst hk
    have hkl : k < T.l.length := by have := hi.2; omega
    obtain ⟨was, hwas⟩ : ∃ was, was = T.l.getD k Pr.nil := ⟨_, rfl⟩
    have c1 := h.c1
    obtain ⟨d0, d1, d2⟩ := h.all.at hkl
    rw [← hwas] at d0 d1 d2
    obtain ⟨w1, hw1⟩ : ∃ w1, w1 = w.alloc (.cells #[nV was.st, .bool was.held, nV was.pr] 70) := ⟨_, rfl⟩
    have hB1 : Below w.heap.size w w1 := by rw [hw1]; exact (Below.refl _ _).alloc (Nat.le_refl _) _
    have a0 : w1.cell? ⟨w.heap.size, 0, none⟩ = some (nV was.st) := by rw [hw1]; exact al_new _ _ _ 0 _ rfl rfl
    have a1 : w1.cell? ⟨w.heap.size, 1, none⟩ = some (.bool was.held) := by rw [hw1]; exact al_new _ _ _ 1 _ rfl rfl
    have a2 : w1.cell? ⟨w.heap.size, 2, none⟩ = some (nV was.pr) := by rw [hw1]; exact al_new _ _ _ 2 _ rfl rfl
    have HB1 := Lib.hid hB1
    have HR := Lib.hid (fun W => hreq was W)
    unfold pV at HR
    have H := Lib.hid h
    have HOK := Lib.hid ok
    have HBE := Lib.hid (fun W hB => hbec k W rfl hkl (h.keep hB) hB)
    have hat : atP T.l (k : Int) = was := by rw [atP_nat, hwas]
    have hE : chgE T (k : Int) rq = if rq was = true then 0 else 171 := by unfold chgE; rw [if_neg (Decidable.not_not.2 hi), hat]
    have HHT : Hid (decide (T.has (k : Int)) = true) := decide_eq_true hi
    have HAT := Lib.hid (And.intro hat (And.intro hi hkl))
    have hba : ¬ w.heap.size = ba := fun e => by have := h.lta; omega
    obtain ⟨n, hn⟩ : ∃ n, n = T.l.length := ⟨_, rfl⟩
    have HN := Lib.hid hn
    rw [← hn] at c1 hkl
    have i0 : (0 : Int) ≤ (k : Int) := Int.natCast_nonneg _
    have i1 : (k : Int) < (n : Int) := by omega
    clear h ok hB1 hreq hbec hi hwas hat hn hkl
    rw [hE]
    clear hE
    cases hr : rq was with
    | false =>
      rw [if_neg (by simp)]
      go_enter Try.func36, Try.ntmps36
      go_wp2_with fail
      with_reducible refine HH.out.mono ?_
      rintro e wx ⟨rfl, hwx⟩
      rw [HHT.out]
      subst hwx
      go_upto_region 4 with fail
      rw [← hw1]
      clear hw1 c1 d0 d1 d2
      go_wp2_with fail
      with_reducible refine (HR.out _).mono ?_
      rintro e w2 ⟨rfl, hB2⟩
      rw [hr]
      have HB2 := Lib.hid (HB1.out.trans (hB2.mono HB1.out.size))
      clear hB2
      go_wp2_with fail
      go_ret
      exact ⟨rfl, TbP.below H.out HB2.out⟩
    | true =>
      rw [if_pos rfl]
      go_enter Try.func36, Try.ntmps36
      go_wp2_with fail
      with_reducible refine HH.out.mono ?_
      rintro e wx ⟨rfl, hwx⟩
      rw [HHT.out]
      subst hwx
      go_upto_region 4 with fail
      rw [← hw1]
      clear hw1 c1 d0 d1 d2
      go_wp2_with fail
      with_reducible refine (HR.out _).mono ?_
      rintro e w2 ⟨rfl, hB2⟩
      rw [hr]
      have HB2 := Lib.hid (HB1.out.trans (hB2.mono HB1.out.size))
      have c2 := (H.out.keep HB2.out).c1
      rw [← HN.out] at c2
      have s0 := kept a0 hB2
      have s1 := kept a1 hB2
      have s2 := kept a2 hB2
      clear hB2 a0 a1 a2
      go_wp2_with fail
      with_reducible refine (HBE.out _ HB2.out).mono ?_
      rintro e w3 ⟨rfl, hb⟩
      have h3 := (H.out.keep HB2.out).become hb
      have t0 := hb.2.cell s0 hba
      have t1 := hb.2.cell s1 hba
      have t2 := hb.2.cell s2 hba
      have HC3 : Hid (Chg (Blk g bi ba v) w w3) := (Chg.of_below HB2.out).trans (hb.2.mono fun x hx => .inr (.inr (.inl hx)))
      have hl3 : (T.l.set k p').length = T.l.length := List.length_set
      have HS := Lib.hid (settle_any (k := k) was w3 h3 (by show k < (T.l.set k p').length; rw [hl3]; exact HAT.out.2.2) (fun y hy => by
        show 0 ≤ y ∧ y < ((T.l.set k p').length : Int)
        rw [hl3]; exact ((HOK.out.mem y).1 hy).1) (by
        show T.q.length ≤ 1000
        have := q_len HOK.out
        omega) (fun hw hm => by
        have := ((HOK.out.mem _).1 hm).2
        rw [HAT.out.1, hw] at this
        cases this))
      unfold pV at HS
      clear hb h3 hl3 s0 s1 s2
      go_wp2_with fail
      with_reducible refine HS.out.mono ?_
      rintro e w4 ⟨rfl, hP⟩
      have HF : Hid (TbP g bi ba ci v (T.put (k : Int) p') w w4) := by
        have e : (Tb.mk T.first (T.l.set k p') (setQ (T.l.set k p') T.q (k : Int))) = T.put (k : Int) p' := by
          unfold Tb.put setQ
          have : atP (T.l.set k p') (k : Int) = p' := by
            have := atP_set (p := p') HAT.out.2.1.1 HAT.out.2.1.2 (x := (k : Int)) HAT.out.2.1.1
            rw [if_pos rfl, Int.toNat_natCast] at this
            exact this
          rw [this, Int.toNat_natCast]
        rw [← e]
        exact TbP.trans HC3.out (Slid.refl v w) hP
      clear hP
      go_wp2_with fail
      go_ret
      exact ⟨rfl, HF.out⟩
  · have hE : chgE T i rq = 170 := by unfold chgE; rw [if_pos hi]
    have HHF : Hid (decide (T.has i) = false) := decide_eq_false hi
    have H := Lib.hid h
    rw [hE]
    clear h ok hreq hbec hi hE
    go_enter Try.func36, Try.ntmps36
    go_wp2_with fail
    with_reducible refine HH.out.mono ?_
    rintro e wx ⟨rfl, hwx⟩
    rw [HHF.out]
    subst hwx
    go_wp2_with fail
    go_ret
    exact ⟨rfl, TbP.below H.out (Below.refl _ _)⟩

/-! ### the calls -/
def StepP (g bi ba ci : Nat) (v : Value) (T : Tb) (k i pr : Int) (w : World) (e : Ending) (w' : World) : Prop := e = .returned (nV (T.stepE k i pr)) ∧ TbP g bi ba ci v (T.step k i pr) w w'
theorem step_of {g bi ba ci : Nat} {v : Value} {T : Tb} {k i pr : Int} {p' : Pr} {w w' : World} {e : Ending} (h8 : k ≠ 8) (h6 : ¬ (T.has i ∧ k = 6 ∧ (pr < 0 ∨ 63 < pr))) (hp : p' = bec k (T.fst i) pr (atP T.l i)) (h : ChgP g bi ba ci v T (chgE T i (req k)) (T.put i p') w e w') : StepP g bi ba ci v T k i pr w e w' := by
  have hE : T.stepE k i pr = chgE T i (req k) := by
    unfold Tb.stepE chgE
    rw [if_neg h8]
    by_cases hi : T.has i
    · rw [if_neg (Decidable.not_not.2 hi), if_neg (Decidable.not_not.2 hi), if_neg (fun c => h6 ⟨hi, c⟩)]
    · rw [if_pos hi, if_pos hi]
  obtain ⟨h1, h2⟩ := h
  refine ⟨by rw [hE]; exact h1, ?_⟩
  unfold Tb.step
  rw [if_neg h8, hE, ← hp]
  exact h2
theorem fst_at {T : Tb} (k : Nat) : T.fst (k : Int) = ((T.first.getD k 0 : Nat) : Int) := by unfold Tb.fst; rw [Int.toNat_natCast]
theorem start_any {g bi ba ci : Nat} {v : Value} {T : Tb} (i : Int) (w : World) (h : TbAt w g bi ba ci v T) (ok : TOk T) : Calls Try.prog 25 #[.pointer (some ⟨g, 0, none⟩), nV i] w fun e w' => StepP g bi ba ci v T 0 i 0 w e w' := by
  have HC := Lib.hid (change_any i 40 41 #[] (req 0) (⟨1, false, (atP T.l i).pr⟩) w h ok (enters_of Try.func40 rfl rfl) (enters_of Try.func41 rfl rfl) (fun p W => dormant_any p W) (fun k W hi hk h' _ => by
    subst hi
    rw [atP_nat]
    exact become_start W h'.all hk rfl))
  clear h ok
  go_enter Try.func25, Try.ntmps25
  go_wp2_with fail
  with_reducible refine HC.out.mono ?_
  rintro e w1 ⟨rfl, hP⟩
  have HF : Hid (StepP g bi ba ci v T 0 i 0 w (.returned (nV (chgE T i (req 0)))) w1) := step_of (by decide) (fun c => absurd c.2.1 (by decide)) rfl ⟨rfl, hP⟩
  generalize chgE T i (req 0) = E at HF ⊢
  clear hP HC
  go_wp2_with fail
  go_ret
  exact HF.out
theorem block_any {g bi ba ci : Nat} {v : Value} {T : Tb} (i : Int) (w : World) (h : TbAt w g bi ba ci v T) (ok : TOk T) : Calls Try.prog 27 #[.pointer (some ⟨g, 0, none⟩), nV i] w fun e w' => StepP g bi ba ci v T 2 i 0 w e w' := by
  have HC := Lib.hid (change_any i 37 43 #[] (req 2) (⟨2, (atP T.l i).held, (atP T.l i).pr⟩) w h ok (enters_of Try.func37 rfl rfl) (enters_of Try.func43 rfl rfl) (fun p W => runnable_any p W) (fun k W hi hk h' _ => by
    subst hi
    rw [atP_nat]
    exact become_block W h'.all hk rfl))
  clear h ok
  go_enter Try.func27, Try.ntmps27
  go_wp2_with fail
  with_reducible refine HC.out.mono ?_
  rintro e w1 ⟨rfl, hP⟩
  have HF : Hid (StepP g bi ba ci v T 2 i 0 w (.returned (nV (chgE T i (req 2)))) w1) := step_of (by decide) (fun c => absurd c.2.1 (by decide)) rfl ⟨rfl, hP⟩
  generalize chgE T i (req 2) = E at HF ⊢
  clear hP HC
  go_wp2_with fail
  go_ret
  exact HF.out
theorem wake_any {g bi ba ci : Nat} {v : Value} {T : Tb} (i : Int) (w : World) (h : TbAt w g bi ba ci v T) (ok : TOk T) : Calls Try.prog 28 #[.pointer (some ⟨g, 0, none⟩), nV i] w fun e w' => StepP g bi ba ci v T 3 i 0 w e w' := by
  have HC := Lib.hid (change_any i 44 45 #[] (req 3) (⟨1, (atP T.l i).held, (atP T.l i).pr⟩) w h ok (enters_of Try.func44 rfl rfl) (enters_of Try.func45 rfl rfl) (fun p W => waiting_any p W) (fun k W hi hk h' _ => by
    subst hi
    rw [atP_nat]
    exact become_wake W h'.all hk rfl))
  clear h ok
  go_enter Try.func28, Try.ntmps28
  go_wp2_with fail
  with_reducible refine HC.out.mono ?_
  rintro e w1 ⟨rfl, hP⟩
  have HF : Hid (StepP g bi ba ci v T 3 i 0 w (.returned (nV (chgE T i (req 3)))) w1) := step_of (by decide) (fun c => absurd c.2.1 (by decide)) rfl ⟨rfl, hP⟩
  generalize chgE T i (req 3) = E at HF ⊢
  clear hP HC
  go_wp2_with fail
  go_ret
  exact HF.out
theorem suspend_any {g bi ba ci : Nat} {v : Value} {T : Tb} (i : Int) (w : World) (h : TbAt w g bi ba ci v T) (ok : TOk T) : Calls Try.prog 30 #[.pointer (some ⟨g, 0, none⟩), nV i] w fun e w' => StepP g bi ba ci v T 4 i 0 w e w' := by
  have HC := Lib.hid (change_any i 48 49 #[] (req 4) (⟨(atP T.l i).st, true, (atP T.l i).pr⟩) w h ok (enters_of Try.func48 rfl rfl) (enters_of Try.func49 rfl rfl) (fun p W => holdable_any p W) (fun k W hi hk h' _ => by
    subst hi
    rw [atP_nat]
    exact become_susp W h'.all hk rfl))
  clear h ok
  go_enter Try.func30, Try.ntmps30
  go_wp2_with fail
  with_reducible refine HC.out.mono ?_
  rintro e w1 ⟨rfl, hP⟩
  have HF : Hid (StepP g bi ba ci v T 4 i 0 w (.returned (nV (chgE T i (req 4)))) w1) := step_of (by decide) (fun c => absurd c.2.1 (by decide)) rfl ⟨rfl, hP⟩
  generalize chgE T i (req 4) = E at HF ⊢
  clear hP HC
  go_wp2_with fail
  go_ret
  exact HF.out
theorem resume_any {g bi ba ci : Nat} {v : Value} {T : Tb} (i : Int) (w : World) (h : TbAt w g bi ba ci v T) (ok : TOk T) : Calls Try.prog 31 #[.pointer (some ⟨g, 0, none⟩), nV i] w fun e w' => StepP g bi ba ci v T 5 i 0 w e w' := by
  have HC := Lib.hid (change_any i 50 51 #[] (req 5) (⟨(atP T.l i).st, false, (atP T.l i).pr⟩) w h ok (enters_of Try.func50 rfl rfl) (enters_of Try.func51 rfl rfl) (fun p W => held_any p W) (fun k W hi hk h' _ => by
    subst hi
    rw [atP_nat]
    exact become_res W h'.all hk rfl))
  clear h ok
  go_enter Try.func31, Try.ntmps31
  go_wp2_with fail
  with_reducible refine HC.out.mono ?_
  rintro e w1 ⟨rfl, hP⟩
  have HF : Hid (StepP g bi ba ci v T 5 i 0 w (.returned (nV (chgE T i (req 5)))) w1) := step_of (by decide) (fun c => absurd c.2.1 (by decide)) rfl ⟨rfl, hP⟩
  generalize chgE T i (req 5) = E at HF ⊢
  clear hP HC
  go_wp2_with fail
  go_ret
  exact HF.out
theorem yield_any {g bi ba ci : Nat} {v : Value} {T : Tb} (i : Int) (w : World) (h : TbAt w g bi ba ci v T) (ok : TOk T) : Calls Try.prog 21 #[.pointer (some ⟨g, 0, none⟩), nV i] w fun e w' => StepP g bi ba ci v T 7 i 0 w e w' := by
  have HC := Lib.hid (change_any i 37 38 #[] (req 7) (atP T.l i) w h ok (enters_of Try.func37 rfl rfl) (enters_of Try.func38 rfl rfl) (fun p W => runnable_any p W) (fun k W hi hk h' _ => by
    subst hi
    rw [atP_nat]
    exact become_yield W h'.all hk rfl))
  clear h ok
  go_enter Try.func21, Try.ntmps21
  go_wp2_with fail
  with_reducible refine HC.out.mono ?_
  rintro e w1 ⟨rfl, hP⟩
  have HF : Hid (StepP g bi ba ci v T 7 i 0 w (.returned (nV (chgE T i (req 7)))) w1) := step_of (by decide) (fun c => absurd c.2.1 (by decide)) rfl ⟨rfl, hP⟩
  generalize chgE T i (req 7) = E at HF ⊢
  clear hP HC
  go_wp2_with fail
  go_ret
  exact HF.out
theorem stop_any {g bi ba ci : Nat} {v : Value} {T : Tb} (i : Int) (w : World) (h : TbAt w g bi ba ci v T) (ok : TOk T) : Calls Try.prog 29 #[.pointer (some ⟨g, 0, none⟩), nV i] w fun e w' => StepP g bi ba ci v T 1 i 0 w e w' := by
  obtain ⟨w1, hw1⟩ : ∃ w1, w1 = (w.alloc (.cells #[.pointer (some ⟨g, 0, none⟩)] 24)).alloc (.cells #[nV i] 3) := ⟨_, rfl⟩
  have hB1 : Below w.heap.size w w1 := by rw [hw1]; exact ((Below.refl _ _).alloc (Nat.le_refl _) _).alloc (by simp) _
  have b1 : w1.cell? ⟨w.heap.size, 0, none⟩ = some (.pointer (some ⟨g, 0, none⟩)) := by rw [hw1]; exact al_cell (al_new _ _ _ 0 _ rfl rfl)
  have b2 : w1.cell? ⟨w.heap.size + 1, 0, none⟩ = some (nV i) := by rw [hw1]; exact al_new _ _ _ 0 _ (by simp) rfl
  have HB1 := Lib.hid hB1
  have HC := Lib.hid (change_any i 46 47 #[.pointer (some ⟨w.heap.size, 0, none⟩), .pointer (some ⟨w.heap.size + 1, 0, none⟩)] (req 1) ⟨0, false, T.fst i⟩ w1 (h.keep hB1) ok (enters_of Try.func46 rfl rfl) (enters_of Try.func47 rfl rfl) (fun p W => active_any p W) (fun k W hi hk h' hB => by
    subst hi
    rw [fst_at]
    refine become_stop (n := T.l.length) (x := T.first.getD k 0) W h'.all hk rfl rfl (kept b1 hB) (kept b2 hB) h'.c0 (h'.first k hk) ?_
    have := fst_le ok (k : Int)
    rw [fst_at] at this
    omega))
  clear h ok hB1
  go_enter Try.func29, Try.ntmps29
  go_upto_region 1 with fail
  rw [← hw1]
  clear hw1
  go_wp2_with fail
  with_reducible refine HC.out.mono ?_
  rintro e w2 ⟨rfl, hP⟩
  have HF : Hid (StepP g bi ba ci v T 1 i 0 w (.returned (nV (chgE T i (req 1)))) w2) := step_of (by decide) (fun c => absurd c.2.1 (by decide)) rfl ⟨rfl, TbP.bel HB1.out hP⟩
  generalize chgE T i (req 1) = E at HF ⊢
  clear hP HC
  go_wp2_with fail
  go_ret
  exact HF.out
theorem raise_any {g bi ba ci : Nat} {v : Value} {T : Tb} (i pr : Int) (w : World) (h : TbAt w g bi ba ci v T) (ok : TOk T) : Calls Try.prog 32 #[.pointer (some ⟨g, 0, none⟩), nV i, nV pr] w fun e w' => StepP g bi ba ci v T 6 i pr w e w' := by
  have hB1 : Below w.heap.size w (w.alloc (.cells #[nV pr] 3)) := (Below.refl _ _).alloc (Nat.le_refl _) _
  have b1 : (w.alloc (.cells #[nV pr] 3)).cell? ⟨w.heap.size, 0, none⟩ = some (nV pr) := al_new _ _ _ 0 _ rfl rfl
  have h1 := h.keep hB1
  have HB1 := Lib.hid hB1
  have HH := Lib.hid (has_any i (w.alloc (.cells #[nV pr] 3)) h1)
  have H := Lib.hid h
  by_cases hbad : T.has i ∧ (pr < 0 ∨ 63 < pr)
  · have hE : T.stepE 6 i pr = 172 := by unfold Tb.stepE; rw [if_neg (by decide), if_neg (Decidable.not_not.2 hbad.1), if_pos ⟨rfl, hbad.2⟩]
    have hT : T.step 6 i pr = T := by unfold Tb.step; rw [if_neg (by decide), hE, if_neg (by decide)]
    have HF : Hid (StepP g bi ba ci v T 6 i pr w (.returned (nV 172)) (w.alloc (.cells #[nV pr] 3))) := ⟨by rw [hE], by rw [hT]; exact TbP.below h hB1⟩
    have HT : Hid (decide (T.has i) = true) := decide_eq_true hbad.1
    have hb := hbad.2
    clear h ok hB1 h1 hE hT hbad
    rcases hb with hb | hb
    · go_enter Try.func32, Try.ntmps32
      go_wp2_with fail
      with_reducible refine HH.out.mono ?_
      rintro e wx ⟨rfl, hwx⟩
      rw [HT.out]
      subst hwx
      go_wp2_with fail
      go_ret
      exact HF.out
    · have hb2 : ¬ pr < 0 := by omega
      go_enter Try.func32, Try.ntmps32
      go_wp2_with fail
      with_reducible refine HH.out.mono ?_
      rintro e wx ⟨rfl, hwx⟩
      rw [HT.out]
      subst hwx
      go_wp2_with fail
      go_ret
      exact HF.out
  · have HC := Lib.hid (change_any i 46 52 #[.pointer (some ⟨w.heap.size, 0, none⟩)] (req 6) ⟨(atP T.l i).st, (atP T.l i).held, pr⟩ (w.alloc (.cells #[nV pr] 3)) h1 ok (enters_of Try.func46 rfl rfl) (enters_of Try.func52 rfl rfl) (fun p W => active_any p W) (fun k W hi hk h' hB => by
      subst hi
      rw [atP_nat]
      exact become_raise pr W h'.all hk rfl (kept b1 hB)))
    have HSt : Hid (∀ e w2, ChgP g bi ba ci v T (chgE T i (req 6)) (T.put i ⟨(atP T.l i).st, (atP T.l i).held, pr⟩) w e w2 → StepP g bi ba ci v T 6 i pr w e w2) := fun e w2 hh => step_of (by decide) (fun c => hbad ⟨c.1, c.2.2⟩) rfl hh
    by_cases hi : T.has i
    · have hb1 : ¬ pr < 0 := fun c => hbad ⟨hi, .inl c⟩
      have hb2 : ¬ 63 < pr := fun c => hbad ⟨hi, .inr c⟩
      have HT : Hid (decide (T.has i) = true) := decide_eq_true hi
      clear h ok hB1 h1 hbad hi
      go_enter Try.func32, Try.ntmps32
      go_wp2_with fail
      with_reducible refine HH.out.mono ?_
      rintro e wx ⟨rfl, hwx⟩
      rw [HT.out]
      subst hwx
      go_wp2_with fail
      with_reducible refine HC.out.mono ?_
      rintro e w2 ⟨rfl, hP⟩
      have HF := Lib.hid (HSt.out _ w2 ⟨rfl, TbP.bel HB1.out hP⟩)
      generalize chgE T i (req 6) = E at HF ⊢
      clear hP HC HSt
      go_wp2_with fail
      go_ret
      exact HF.out
    · have HT : Hid (decide (T.has i) = false) := decide_eq_false hi
      clear h ok hB1 h1 hbad hi
      go_enter Try.func32, Try.ntmps32
      go_wp2_with fail
      with_reducible refine HH.out.mono ?_
      rintro e wx ⟨rfl, hwx⟩
      rw [HT.out]
      subst hwx
      go_wp2_with fail
      with_reducible refine HC.out.mono ?_
      rintro e w2 ⟨rfl, hP⟩
      have HF := Lib.hid (HSt.out _ w2 ⟨rfl, TbP.bel HB1.out hP⟩)
      generalize chgE T i (req 6) = E at HF ⊢
      clear hP HC HSt
      go_wp2_with fail
      go_ret
      exact HF.out
end Go.Proofs.Ytkbafiepnnldeaa
