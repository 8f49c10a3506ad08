/-
  In turn, pure: who has the greatest priority, how many they are, what a yield makes of the queue.
-/
import Derived.Test.YtkbafiepnnldeaaLaw
namespace Go.Proofs.Ytkbafiepnnldeaa

theorem gone_lt {a : Int} : ∀ {q : List Int}, a ∈ q → (gone q a).length + 1 ≤ q.length
  | b :: r, h => by
    by_cases e : b = a
    · subst e
      have : gone (b :: r) b = gone r b := by unfold gone; rw [List.filter_cons_of_neg (by simp)]
      rw [this, List.length_cons]
      have := gone_len r b
      omega
    · have h1 : a ∈ r := (List.mem_cons.1 h).resolve_left fun x => e x.symm
      have : gone (b :: r) a = b :: gone r a := by unfold gone; rw [List.filter_cons_of_pos (by simp [e])]
      rw [this, List.length_cons, List.length_cons]
      have := gone_lt h1
      omega
theorem sub_len : ∀ (L M : List Int), L.Nodup → (∀ x ∈ L, x ∈ M) → L.length ≤ M.length
  | [], _, _, _ => Nat.zero_le _
  | a :: L, M, hn, h => by
    have hc := List.nodup_cons.1 hn
    have ih := sub_len L (gone M a) hc.2 fun x hx => mem_gone.2 ⟨h x (List.mem_cons_of_mem _ hx), fun e => hc.1 (e ▸ hx)⟩
    have := gone_lt (h a List.mem_cons_self)
    rw [List.length_cons]
    omega
/-- Whether one of them. -/
def isTop (l : List Pr) (P : Int) (x : Nat) : Bool := (l.getD x Pr.nil).run && decide ((l.getD x Pr.nil).pr = P)
def tops (l : List Pr) (P : Int) : Nat → List Int
  | 0 => []
  | k + 1 => if isTop l P k = true then (k : Int) :: tops l P k else tops l P k
theorem mem_tops {l : List Pr} {P : Int} {x : Int} : ∀ {k : Nat}, x ∈ tops l P k ↔ (0 ≤ x ∧ x < (k : Int)) ∧ isTop l P x.toNat = true
  | 0 => by
    show x ∈ [] ↔ _
    constructor
    · intro h; cases h
    · rintro ⟨⟨h1, h2⟩, _⟩; omega
  | k + 1 => by
    have ih := mem_tops (l := l) (P := P) (x := x) (k := k)
    show x ∈ (if isTop l P k = true then (k : Int) :: tops l P k else tops l P k) ↔ _
    by_cases hk : isTop l P k = true
    · rw [if_pos hk, List.mem_cons, ih]
      constructor
      · rintro (rfl | ⟨h1, h2⟩)
        · exact ⟨by omega, by rw [Int.toNat_natCast]; exact hk⟩
        · exact ⟨by omega, h2⟩
      · rintro ⟨h1, h2⟩
        by_cases e : x = (k : Int)
        · exact .inl e
        · exact .inr ⟨by omega, h2⟩
    · rw [if_neg hk, ih]
      constructor
      · rintro ⟨h1, h2⟩; exact ⟨by omega, h2⟩
      · rintro ⟨h1, h2⟩
        refine ⟨⟨h1.1, ?_⟩, h2⟩
        by_cases e : x = (k : Int)
        · subst e; rw [Int.toNat_natCast] at h2; exact absurd h2 hk
        · omega
theorem nodup_tops (l : List Pr) (P : Int) : ∀ k, (tops l P k).Nodup
  | 0 => List.nodup_nil
  | k + 1 => by
    show (if isTop l P k = true then (k : Int) :: tops l P k else tops l P k).Nodup
    split
    · exact List.nodup_cons.2 ⟨fun h => by have := (mem_tops.1 h).1; omega, nodup_tops l P k⟩
    · exact nodup_tops l P k
/-- The queue: those of the greatest priority, and the others. -/
structure TopQ (T : Tb) (P : Int) (A B : List Int) : Prop where
  q : T.q = A ++ B
  a : ∀ x ∈ A, (atP T.l x).pr = P
  b : ∀ x ∈ B, (atP T.l x).pr < P
theorem split_le {l : List Pr} {P : Int} : ∀ (q : List Int), (q.Pairwise fun a b => (atP l b).pr ≤ (atP l a).pr) → (∀ x ∈ q, (atP l x).pr ≤ P) → ∃ A B, q = A ++ B ∧ (∀ x ∈ A, (atP l x).pr = P) ∧ (∀ x ∈ B, (atP l x).pr < P)
  | [], _, _ => ⟨[], [], rfl, (fun _ h => by cases h), (fun _ h => by cases h)⟩
  | a :: r, ho, h => by
    have hc := List.pairwise_cons.1 ho
    by_cases e : (atP l a).pr = P
    · obtain ⟨A, B, e1, e2, e3⟩ := split_le r hc.2 fun x hx => h x (List.mem_cons_of_mem _ hx)
      refine ⟨a :: A, B, by rw [e1]; rfl, fun x hx => ?_, e3⟩
      rcases List.mem_cons.1 hx with rfl | hx
      · exact e
      · exact e2 x hx
    · have h1 := h a List.mem_cons_self
      refine ⟨[], a :: r, rfl, (fun _ h => by cases h), fun x hx => ?_⟩
      rcases List.mem_cons.1 hx with rfl | hx
      · omega
      · have := hc.1 x hx; omega
theorem topq_of {T : Tb} (ok : TOk T) {a : Int} {r : List Int} (e : T.q = a :: r) : ∃ A B, TopQ T (atP T.l a).pr (a :: A) B := by
  obtain ⟨h1, h2, h3⟩ := head_top ok e
  obtain ⟨A, B, e1, e2, e3⟩ := split_le (P := (atP T.l a).pr) T.q ok.ord fun x hx => by
    have := (ok.mem x).1 hx
    exact h3 x this.1 this.2
  cases A with
  | nil =>
    rw [List.nil_append] at e1
    have := e3 a (by rw [← e1, e]; exact List.mem_cons_self)
    omega
  | cons b A =>
    rw [e] at e1
    injection e1 with e4 e5
    subst e4
    exact ⟨A, B, by rw [e, e5]; rfl, e2, e3⟩
theorem tops_len {T : Tb} (ok : TOk T) {P : Int} {A B : List Int} (h : TopQ T P A B) : (tops T.l P T.l.length).length = A.length := by
  have hn := ok.nd
  rw [h.q] at hn
  have hmem : ∀ x, x ∈ A ↔ x ∈ tops T.l P T.l.length := fun x => by
    rw [mem_tops]
    constructor
    · intro hx
      have hm := (ok.mem x).1 (by rw [h.q]; exact List.mem_append_left _ hx)
      refine ⟨hm.1, ?_⟩
      unfold isTop
      have e1 : (T.l.getD x.toNat Pr.nil) = atP T.l x := rfl
      rw [e1, hm.2, h.a x hx]
      simp
    · rintro ⟨h1, h2⟩
      unfold isTop at h2
      simp only [Bool.and_eq_true, decide_eq_true_eq] at h2
      have hm := (ok.mem x).2 ⟨h1, h2.1⟩
      rw [h.q, List.mem_append] at hm
      rcases hm with hm | hm
      · exact hm
      · have := h.b x hm
        have e1 : (T.l.getD x.toNat Pr.nil) = atP T.l x := rfl
        rw [e1] at h2
        omega
  exact Nat.le_antisymm (sub_len _ _ (nodup_tops _ _ _) fun x hx => (hmem x).2 hx) (sub_len _ _ (List.nodup_append.1 hn).1 fun x hx => (hmem x).1 hx)
/-- Behind j yields. -/
def rot (A B : List Int) (j : Nat) : List Int := (A.drop j ++ A.take j) ++ B
def Tb.turn (T : Tb) (A B : List Int) (j : Nat) : Tb := ⟨T.first, T.l, rot A B j⟩
theorem drop_cons {A : List Int} {j : Nat} (hj : j < A.length) : A.drop j = A.getD j 0 :: A.drop (j + 1) := by
  rw [List.drop_eq_getElem_cons hj, List.getD_eq_getElem?_getD, List.getElem?_eq_getElem hj]
  rfl
theorem take_snoc {A : List Int} {j : Nat} (hj : j < A.length) : A.take (j + 1) = A.take j ++ [A.getD j 0] := by
  rw [List.take_add_one, List.getElem?_eq_getElem hj, List.getD_eq_getElem?_getD, List.getElem?_eq_getElem hj]
  rfl
theorem turn_head {T : Tb} {A B : List Int} {j : Nat} (hj : j < A.length) : (T.turn A B j).q = A.getD j 0 :: ((A.drop (j + 1) ++ A.take j) ++ B) := by
  show rot A B j = _
  unfold rot
  rw [drop_cons hj]
  rfl
theorem turn_zero {T : Tb} {P : Int} {A B : List Int} (h : TopQ T P A B) : T.turn A B 0 = T := by
  unfold Tb.turn rot
  rw [List.drop_zero, List.take_zero, List.append_nil, ← h.q]
theorem turn_all {T : Tb} {P : Int} {A B : List Int} (h : TopQ T P A B) : T.turn A B A.length = T := by
  unfold Tb.turn rot
  rw [List.drop_length, List.take_length, List.nil_append, ← h.q]
theorem turn_step {T : Tb} {P : Int} {A B : List Int} {j : Nat} (ok : TOk (T.turn A B j)) (h : TopQ T P A B) (hj : j < A.length) : (T.turn A B j).stepE 7 (A.getD j 0) 0 = 0 ∧ (T.turn A B j).step 7 (A.getD j 0) 0 = T.turn A B (j + 1) := by
  obtain ⟨h1, h2, _⟩ := head_top ok (turn_head hj)
  have hE : (T.turn A B j).stepE 7 (A.getD j 0) 0 = 0 := by
    unfold Tb.stepE
    rw [if_neg (by decide), if_neg (Decidable.not_not.2 h1), if_neg (fun c => absurd c.1 (by decide)), if_pos (show req 7 _ = true from h2)]
  refine ⟨hE, ?_⟩
  have hn := ok.nd
  rw [turn_head hj] at hn
  have hc := List.nodup_cons.1 hn
  have hset : T.l.set (A.getD j 0).toNat (atP T.l (A.getD j 0)) = T.l := by
    have : (A.getD j 0).toNat < T.l.length := by
      have a1 := h1.1
      have a2 : A.getD j 0 < (T.l.length : Int) := h1.2
      omega
    exact list_set_self this
  have hgone : gone (T.turn A B j).q (A.getD j 0) = (A.drop (j + 1) ++ A.take j) ++ B := by
    rw [turn_head hj]
    have : gone (A.getD j 0 :: ((A.drop (j + 1) ++ A.take j) ++ B)) (A.getD j 0) = gone ((A.drop (j + 1) ++ A.take j) ++ B) (A.getD j 0) := by unfold gone; rw [List.filter_cons_of_neg (by simp)]
    rw [this, gone_same hc.1]
  have hma : A.getD j 0 ∈ A := by
    rw [List.getD_eq_getElem?_getD, List.getElem?_eq_getElem hj]
    exact List.getElem_mem hj
  have hpa := h.a _ hma
  unfold Tb.step
  rw [if_neg (by decide), if_pos hE]
  have hb : bec 7 ((T.turn A B j).fst (A.getD j 0)) 0 (atP (T.turn A B j).l (A.getD j 0)) = atP T.l (A.getD j 0) := rfl
  rw [hb]
  unfold Tb.put
  have hr : (atP T.l (A.getD j 0)).run = true := h2
  have hl : (T.turn A B j).l = T.l := rfl
  rw [if_pos hr, hgone, hl, hset]
  have hj2 : join T.l ((A.drop (j + 1) ++ A.take j) ++ B) (A.getD j 0) = (A.drop (j + 1) ++ A.take j) ++ A.getD j 0 :: B := by
    refine join_split (fun x hx => ?_) (fun x hx => ?_)
    · have hxA : x ∈ A := by
        rcases List.mem_append.1 hx with hx | hx
        · exact List.mem_of_mem_drop hx
        · exact List.mem_of_mem_take hx
      unfold ahead
      rw [h.a x hxA, hpa]
      simp
    · unfold ahead
      rw [hpa]
      have := h.b x hx
      simp [this]
  rw [hj2]
  unfold Tb.turn rot
  rw [take_snoc hj]
  simp
open Go.RowKit
/-- Who ran already. -/
structure RanAt (w : World) (b : Nat) (L : List Int) : Prop where
  cel : ∀ i, i < 16 → w.cell? ⟨b, i, none⟩ = some (.bool (decide ((i : Int) ∈ L)))
  fz : ∀ i, w.frozen? ⟨b, i, none⟩ = false
theorem ran_new (w : World) : RanAt (w.alloc (.cells (Array.replicate 16 (.bool false)) 53)) w.heap.size [] :=
  ⟨fun i hi => al_new _ _ _ i _ rfl (by rw [Array.getElem?_replicate, if_pos hi]; simp), fun _ => frozen_new _ _ _ _⟩
theorem RanAt.same {w w' : World} {b : Nat} {L : List Int} (h : RanAt w b L) (e : w'.heap[b]? = w.heap[b]?) : RanAt w' b L :=
  ⟨fun i hi => by rw [World.cell?_of_block (w := w) e]; exact h.cel i hi, fun i => by rw [World.frozen?_of_block (w := w) e]; exact h.fz i⟩
theorem RanAt.lt {w : World} {b : Nat} {L : List Int} (h : RanAt w b L) : b < w.heap.size := cell_lt (h.cel 0 (by decide))
theorem RanAt.keep {w w' : World} {b : Nat} {L : List Int} (h : RanAt w b L) (hB : Below w.heap.size w w') : RanAt w' b L := h.same (hB.block _ h.lt)
theorem RanAt.put {w : World} {b k : Nat} {L : List Int} (h : RanAt w b L) : RanAt (w.setCell ⟨b, k, none⟩ (.bool true)) b (L ++ [(k : Int)]) := by
  refine ⟨fun i hi => ?_, fun i => by rw [World.frozen?_setCell]; exact h.fz i⟩
  by_cases e : i = k
  · subst e
    rw [World.cell?_setCell_same _ _ _ (h.cel i hi)]
    simp
  · rw [World.cell?_setCell_other _ _ _ _ (by intro c; simp only [Addr.mk.injEq] at c; omega), h.cel i hi]
    have : ¬ (i : Int) = (k : Int) := by omega
    simp [this]
theorem Far.below {w w' : World} {g bi ba k : Nat} {v : Value} (h : Far w g bi ba v k) (hB : Below w.heap.size w w') : Far w' g bi ba v k := ⟨Nat.lt_of_lt_of_le h.1 hB.size, h.2⟩
theorem TB.far_set {H : Nat} {w0 w : World} {g bi ba ci p i : Nat} {v x : Value} {T : Tb} (h : TB H w0 w g bi ba ci v T) (hF : Far w g bi ba v p) (hp : H ≤ p) : TB H w0 (w.setCell ⟨p, i, none⟩ x) g bi ba ci v T ∧ Far (w.setCell ⟨p, i, none⟩ x) g bi ba v p := by
  have hC : Chg (fun k => k = p) w (w.setCell ⟨p, i, none⟩ x) := Chg.set (S := fun k => k = p) (a := ⟨p, i, none⟩) (Chg.refl w) rfl x
  exact ⟨⟨h.tb.chg hC fun k hk e => hF.2 (e ▸ hk), h.ok, h.blk, h.bel.trans (hC.below (fun k hk => by omega) h.sz), Nat.le_trans h.sz hC.size⟩, Nat.lt_of_lt_of_le hF.1 hC.size, hF.2⟩
/-- Behind j yields, in memory. -/
def TurnK (T : Tb) (A B : List Int) (H : Nat) (w0 w : World) (g bi ba ci p j : Nat) : Prop := ∃ v, TB H w0 w g bi ba ci v (T.turn A B j) ∧ Far w g bi ba v p ∧ RanAt w p (A.take j)
theorem turn_facts {T : Tb} {A B : List Int} {j : Nat} (ok : TOk (T.turn A B j)) (hj : j < A.length) : ∃ x : Nat, A.getD j 0 = (x : Int) ∧ x < T.l.length ∧ ((x : Int) ∈ A.take j → False) ∧ A.take (j + 1) = A.take j ++ [(x : Int)] := by
  obtain ⟨h1, _, _⟩ := head_top ok (turn_head hj)
  have h2 : A.getD j 0 < (T.l.length : Int) := h1.2
  have h3 := h1.1
  refine ⟨(A.getD j 0).toNat, by omega, by omega, ?_, ?_⟩
  · rw [Int.toNat_of_nonneg h3]
    have hn := ok.nd
    rw [turn_head hj] at hn
    have hc := List.nodup_cons.1 hn
    exact fun hm => hc.1 (List.mem_append_left _ (List.mem_append_right _ hm))
  · rw [Int.toNat_of_nonneg h3]
    exact take_snoc hj
theorem TurnK.next {T : Tb} {P : Int} {A B : List Int} {H : Nat} {w0 w w' : World} {g bi ba ci p j x : Nat} {v : Value} {e : Ending} (hQ : TopQ T P A B) (hj : j < A.length) (hx : A.getD j 0 = (x : Int)) (h : TB H w0 w g bi ba ci v (T.turn A B j)) (hF : Far w g bi ba v p) (hR : RanAt w p (A.take j)) (hS : StepP g bi ba ci v (T.turn A B j) 7 (x : Int) 0 w e w') :
    e = .returned (nV 0) ∧ ∃ v', TB H w0 w' g bi ba ci v' (T.turn A B (j + 1)) ∧ Far w' g bi ba v' p ∧ RanAt w' p (A.take j) := by
  obtain ⟨e1, e2⟩ := turn_step h.ok hQ hj
  rw [hx] at e1 e2
  obtain ⟨v', h1, _, h3⟩ := h.step (step_ok h.ok 7 (x : Int) 0) hS.2
  rw [e2] at h1
  exact ⟨by rw [hS.1, e1], v', h1, (h3 p hF).2, hR.same (h3 p hF).1⟩
theorem TurnK.mark {T : Tb} {A B : List Int} {H : Nat} {w0 w : World} {g bi ba ci p j x : Nat} {v : Value} (ht : A.take (j + 1) = A.take j ++ [(x : Int)]) (hp : H ≤ p) (h : TB H w0 w g bi ba ci v (T.turn A B (j + 1))) (hF : Far w g bi ba v p) (hR : RanAt w p (A.take j)) :
    TurnK T A B H w0 (w.setCell ⟨p, x, none⟩ (.bool true)) g bi ba ci p (j + 1) := by
  obtain ⟨h1, h2⟩ := h.far_set (i := x) (x := .bool true) hF hp
  exact ⟨v, h1, h2, by rw [ht]; exact hR.put⟩
end Go.Proofs.Ytkbafiepnnldeaa
