/-
  Two lists of the same tasks that grow side by side.
-/
import Derived.Test.YtdhanenbcjmfkaaDoorOpenX
import Derived.Test.YtdhanenbcjmfkaaDoorOnce
namespace Go.Proofs.YtdhanenbcjmfkaaDoor
open Go.RowKit

/-- Two rows of tasks, apart. -/
structure Tks2 (w0 w : World) (k ga ca gb cb : Nat) (Ba Bb K : Nat → Nat) (t : Nat → Tk) : Prop where
  a : Tks w0 w k ga ca Ba K t
  b : Tks w0 w k gb cb Bb K t
  ne : ga ≠ gb
  gab : ∀ j, j < k → gb < Ba j ∨ Ba j + szT (K j) ≤ gb
  gba : ∀ j, j < k → ga < Bb j ∨ Bb j + szT (K j) ≤ ga
  ab : ∀ i j, i < k → j < k → Ba i + szT (K i) ≤ Bb j ∨ Bb j + szT (K j) ≤ Ba i
theorem tks2_nil (w : World) (K : Nat → Nat) (t : Nat → Tk) : Tks2 w ((w.alloc (.cells #[] 32)).alloc (.cells #[] 32)) 0 w.heap.size 0 (w.heap.size + 1) 0 (fun _ => 0) (fun _ => 0) K t := by
  have h1 := tks_nil w K t (fun _ => 0)
  have hA : Below (w.alloc (.cells #[] 32)).heap.size (w.alloc (.cells #[] 32)) ((w.alloc (.cells #[] 32)).alloc (.cells #[] 32)) := (Below.refl _ _).alloc (Nat.le_refl _) _
  have h2 : ((w.alloc (.cells #[] 32)).alloc (.cells #[] 32)).ownsRow w.heap.size 32 1 (.slice (some ⟨w.heap.size + 1, 0, none⟩) 0 0) 0 [] := by
    have := World.ownsRow_lit (base := w.heap.size) (e := 32) (size := 1) (w.alloc (.cells #[] 32)) #[] 0 (by simp) (by decide) rfl
    simpa using this
  exact ⟨h1.keep hA, ⟨h2, fun j hj => absurd hj (by omega), fun j hj => absurd hj (by omega), fun j hj => absurd hj (by omega), fun i j _ hj => absurd hj (by omega), fun j hj => absurd hj (by omega), by omega, by simp, (h1.keep hA).bel⟩, by omega, fun j hj => absurd hj (by omega), fun j hj => absurd hj (by omega), fun i j hi => absurd hi (by omega)⟩
/-- A row with one task more; other rows may have grown, too. -/
theorem tks_mk {w0 w w5 : World} {k g cap g' cap' go B' : Nat} {B K : Nat → Nat} {t : Nat → Tk} (h : Tks w0 w k g cap B K t) (hs : w.heap.size ≤ w5.heap.size) (hC : ∀ x, x < w.heap.size → x ≠ g → x ≠ go → w5.heap[x]? = w.heap[x]?) (hgo : ∀ j, j < k → go < B j ∨ B j + szT (K j) ≤ go)
    (hB' : w.heap.size ≤ B') (hT : TaskAt w5 B' (t k)) (hkd : (t k).kind = K k) (hown : w5.ownsRow w0.heap.size 32 1 (.slice (some ⟨g', 0, none⟩) (k + 1) cap') (k + 1) ((List.range k).map (fun j => tv (K j) (B j)) ++ [tv (K k) B'])) (hg : g' = g ∨ B' + szT (K k) ≤ g') (hlt : g' < w5.heap.size) (hbel : Below w0.heap.size w0 w5) :
    Tks w0 w5 (k + 1) g' cap' (upd B k B') K t := by
  have hglt := h.glt
  have h0 := h.bel.size
  refine ⟨by rw [← range_tv]; exact hown, fun j hj => ?_, fun j hj => ?_, fun j hj => ?_, fun i j hij hj => ?_, fun j hj => ?_, ?_, hlt, hbel⟩
  · by_cases e : j = k
    · subst e; rw [upd_same]; exact hT
    · rw [upd_other e]
      have hj' : j < k := by omega
      have hgj := h.gr j hj'
      have hlj := h.lt hj'
      have hoj := hgo j hj'
      have hkj := h.kd j hj'
      exact (h.tk j hj').same (fun x h1 h2 => hC x (by rw [hkj] at h2; omega) (by rw [hkj] at h2; omega) (by rw [hkj] at h2; omega)) hs
  · by_cases e : j = k
    · subst e; exact hkd
    · exact h.kd j (by omega)
  · by_cases e : j = k
    · subst e; rw [upd_same]; omega
    · rw [upd_other e]
      have := h.gr j (by omega)
      have := h.lt (j := j) (by omega)
      omega
  · by_cases e : j = k
    · subst e
      rw [upd_same, upd_other (by omega)]
      have := h.lt (j := i) (by omega)
      omega
    · rw [upd_other e, upd_other (by omega)]
      exact h.sep i j hij (by omega)
  · by_cases e : j = k
    · subst e; rw [upd_same]; omega
    · rw [upd_other e]; exact h.lo j (by omega)
  · have := h.glo; omega
/-- Both rows with one task more. -/
theorem tks2_next {w0 w w1 w3 w4 w5 : World} {k ga ca gb cb ga' ca' gb' cb' Ba' Bb' : Nat} {Ba Bb K : Nat → Nat} {t : Nat → Tk} (h : Tks2 w0 w k ga ca gb cb Ba Bb K t) (hkd : (t k).kind = K k)
    (hB1 : Below w.heap.size w w1) (ha : w.heap.size ≤ Ba') (hTa : TaskAt w1 Ba' (t k)) (hB3 : Below w1.heap.size w1 w3) (hb : w1.heap.size ≤ Bb') (hTb : TaskAt w3 Bb' (t k))
    (hrow4 : w4.ownsRow w0.heap.size 32 1 (.slice (some ⟨ga', 0, none⟩) (k + 1) ca') (k + 1) ((List.range k).map (fun j => tv (K j) (Ba j)) ++ [tv (K k) Ba'])) (hC4 : Chg (fun x => x = ga) w3 w4) (hg4 : ga' = ga ∨ w3.heap.size < ga') (hl4 : ga' < w4.heap.size)
    (hrow5 : w5.ownsRow w0.heap.size 32 1 (.slice (some ⟨gb', 0, none⟩) (k + 1) cb') (k + 1) ((List.range k).map (fun j => tv (K j) (Bb j)) ++ [tv (K k) Bb'])) (hC5 : Chg (fun x => x = gb) w4 w5) (hg5 : gb' = gb ∨ w4.heap.size < gb') (hl5 : gb' < w5.heap.size) :
    Tks2 w0 w5 (k + 1) ga' ca' gb' cb' (upd Ba k Ba') (upd Bb k Bb') K t := by
  have s1 := hB1.size
  have s3 := hB3.size
  have s4 := hC4.size
  have s5 := hC5.size
  have la := hTa.lt
  have lb := hTb.lt
  rw [hkd] at la lb
  have gla := h.a.glt
  have glb := h.b.glt
  have hne := h.ne
  have hw3 : Below w.heap.size w w3 := hB1.trans (hB3.mono s1)
  have h35 : ∀ x, x < w3.heap.size → x ≠ ga → x ≠ gb → w5.heap[x]? = w3.heap[x]? := fun x hx h1 h2 => by rw [hC5.block x (by omega) h2, hC4.block x hx h1]
  have hC : ∀ x, x < w.heap.size → x ≠ ga → x ≠ gb → w5.heap[x]? = w.heap[x]? := fun x hx h1 h2 => by rw [h35 x (by omega) h1 h2, hw3.block x hx]
  have hbel : Below w0.heap.size w0 w5 := (h.a.bel.trans (hw3.mono h.a.bel.size)).trans ((hC4.mono (S' := fun x => x = ga ∨ x = gb) (fun _ e => .inl e)).trans (hC5.mono (fun _ e => .inr e)) |>.below (fun x e => by have := h.a.glo; have := h.b.glo; omega) (by have := h.a.bel.size; omega))
  have hTa5 : TaskAt w5 Ba' (t k) := (hTa.keep hB3).same (fun x h1 h2 => h35 x (by rw [hkd] at h2; omega) (by omega) (by omega)) (by omega)
  have hTb5 : TaskAt w5 Bb' (t k) := hTb.same (fun x h1 h2 => h35 x (by rw [hkd] at h2; omega) (by omega) (by omega)) (by omega)
  have hra : w5.ownsRow w0.heap.size 32 1 (.slice (some ⟨ga', 0, none⟩) (k + 1) ca') (k + 1) ((List.range k).map (fun j => tv (K j) (Ba j)) ++ [tv (K k) Ba']) := ownsRow_same hrow4 (hC5.block _ hl4 (by omega))
  refine ⟨tks_mk h.a (by omega) hC h.gab ha hTa5 hkd hra (by omega) (by omega) hbel, tks_mk h.b (by omega) (fun x hx h1 h2 => hC x hx h2 h1) h.gba (by omega) hTb5 hkd hrow5 (by omega) hl5 hbel, by omega, fun j hj => ?_, fun j hj => ?_, fun i j hi hj => ?_⟩
  · by_cases e : j = k
    · subst e; rw [upd_same]; omega
    · rw [upd_other e]
      have := h.gab j (by omega)
      have := h.a.lt (j := j) (by omega)
      omega
  · by_cases e : j = k
    · subst e; rw [upd_same]; omega
    · rw [upd_other e]
      have := h.gba j (by omega)
      have := h.b.lt (j := j) (by omega)
      omega
  · by_cases e : i = k
    · subst e
      rw [upd_same]
      by_cases e2 : j = i
      · subst e2; rw [upd_same]; omega
      · rw [upd_other e2]; have := h.b.lt (j := j) (by omega); omega
    · rw [upd_other e]
      by_cases e2 : j = k
      · subst e2; rw [upd_same]; have := h.a.lt (j := i) (by omega); omega
      · rw [upd_other e2]; exact h.ab i j (by omega) (by omega)
/-- The tasks of raw kinds. -/
def tkL (l : List KindA) (j : Nat) : Tk := tk0 (kindT (l.getD j dK).1) (l.getD j dK).2.1 (capT (l.getD j dK).2.2)
def kL (l : List KindA) (j : Nat) : Nat := kindT (l.getD j dK).1
/-- Their system at first. -/
def sysL (l : List KindA) : Sy := ⟨tkL l, fun _ => 0⟩
/-- The two machines of the rows. -/
theorem tks2_two {w0 w W w4 w5 : World} {k ga ca gb cb g1 b1 g2 b2 n : Nat} {Ba Bb : Nat → Nat} {l : List KindA} {e4 e5 : Ending} (h : Tks2 w0 w k ga ca gb cb Ba Bb (kL l) (tkL l)) (hn : n ≤ 4096) (hk : k ≤ 1000) (hG : GOk w) (h6 : 6 ≤ W.heap.size)
    (hM1 : MemAt w g1 b1 n (fun _ => 0) 0) (hM2 : MemAt w g2 b2 n (fun _ => 0) 0) (hBW : Below W.heap.size W w) (hg : W.heap.size ≤ g1 ∧ W.heap.size ≤ b1 ∧ W.heap.size ≤ g2 ∧ W.heap.size ≤ b2 ∧ g1 ≠ g2 ∧ g1 ≠ b2 ∧ b1 ≠ g2 ∧ b1 ≠ b2) (hl : g1 < w0.heap.size ∧ b1 < w0.heap.size ∧ g2 < w0.heap.size ∧ b2 < w0.heap.size) (_ : W.heap.size ≤ w0.heap.size)
    (hN1 : NewM g1 k (fun j => tv (kL l j) (Ba j)) w e4 w4) (hN2 : NewM g2 k (fun j => tv (kL l j) (Bb j)) w4 e5 w5) :
    ∃ m1 m2 : Mc, e4 = .returned (.pointer (some ⟨m1.X, 0, none⟩)) ∧ e5 = .returned (.pointer (some ⟨m2.X, 0, none⟩)) ∧ m1.g = g1 ∧ m2.g = g2 ∧ (m1.n = n ∧ m2.n = n ∧ m1.N = k ∧ m2.N = k) ∧ Two W m1 m2 (sysL l) (sysL l) 0 0 w5 := by
  obtain ⟨m1, he1, q1, q2, q3, hS1, hB1, o1, r1⟩ := h.a.sys hM1 ⟨hl.1, hl.2.1⟩ hn hk hG (by omega) (fun _ _ => rfl) hN1
  have s1 := hB1.size
  have hb4 : Tks w0 w4 k gb cb Bb (kL l) (tkL l) := h.b.keep hB1
  obtain ⟨m2, he2, p1, p2, p3, hS2, hB2, o2, r2⟩ := hb4.sys (hM2.keep hB1) ⟨hl.2.2.1, hl.2.2.2⟩ hn hk (hG.keep hB1) (by omega) (fun _ _ => rfl) hN2
  have sW := hBW.size
  have hlt1 := hS1.own_lt
  refine ⟨m1, m2, he1, he2, q1, p1, ⟨q2, p2, q3, p3⟩, hS1.keep hB2, hS2, (hBW.trans (hB1.mono sW)).trans (hB2.mono (by omega)), fun x hx => ?_, fun x hx => ?_, fun x hx hy => ?_⟩
  · have := o1 x hx; omega
  · have := o2 x hx; omega
  · have a1 := r1 x hx
    have a2 := r2 x hy
    have a3 := hlt1 x hx
    have a4 := o1 x hx
    have a5 := o2 x hy
    have hba := h.b.lo
    have haa := h.a.lo
    rcases a1 with a | a | a | ⟨i, hi, i1, i2⟩ <;> rcases a2 with b | b | b | ⟨j, hj, j1, j2⟩
    · omega
    · omega
    · omega
    · have := hba j hj; omega
    · omega
    · omega
    · omega
    · have := hba j hj; omega
    · omega
    · omega
    · omega
    · have := h.b.lt hj; omega
    · have := haa i hi; omega
    · have := haa i hi; omega
    · have := h.a.lt hi; omega
    · have := h.ab i j hi hj; omega
end Go.Proofs.YtdhanenbcjmfkaaDoor
