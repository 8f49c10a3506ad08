/-
  A writer and a reader in memory, with what is kept.
-/
import Derived.Test.YtoaaeamogpdcgaaDoorFew
namespace Go.Proofs.YtoaaeamogpdcgaaDoor
open Go.RowKit

structure St (H : Nat) (w : World) (q : Sb) (cf : Cfg) (C : Nat) (s : Wr) (f : Nat → Int) (r : Rd) (b : Nat) : Prop where
  sq : Sq H w q f C s r
  wi : WInv cf s f
  ri : RInv cf s f b r
  ok : cf.Ok q.n
section
variable {H : Nat} {w : World} {q : Sb} {cf : Cfg} {C : Nat} {s : Wr} {f : Nat → Int} {r : Rd} {b : Nat}
theorem St.keep {w' : World} (h : St H w q cf C s f r b) (hB : Below w.heap.size w w') : St H w' q cf C s f r b := ⟨h.sq.keep hB, h.wi, h.ri, h.ok⟩
theorem st_write (h : St H w q cf C s f r b) (hC : C ≤ 1000000) :
    Calls Tryd.prog 17 #[.pointer (some ⟨q.B, 0, none⟩), .pointer (some ⟨q.g, 0, none⟩)] w fun e w' => e = .returned (.bool (decide (3 ≤ (s.step q.n).k.ph))) ∧ St H w' q cf (C + 1) (s.step q.n) (s.word q.n f) r b ∧ Below H w w' :=
  (sq_write h.sq hC _ rfl).mono fun _ _ ⟨he, hs, hB⟩ => ⟨he, ⟨hs, (h.wi.step h.ok).1, h.ri.write h.wi h.ok, h.ok⟩, hB⟩
theorem st_read (h : St H w q cf C s f r b) (hC : C ≤ 1000000) (ht : r.tr + 1 ≤ 1000000) (d : Bool) (hd : decide (3 ≤ (r.step q.n f).k.ph) = d) :
    Calls Tryd.prog 19 #[.pointer (some ⟨q.R, 0, none⟩), .pointer (some ⟨q.g, 0, none⟩)] w fun e w' => e = .returned (.bool d) ∧ Below H w w' ∧
      ∃ b', St H w' q cf (C + 1) s f (r.step q.n f) b' ∧ ((r.step q.n f).tr = r.tr ∧ b' = b ∨ r.k.ph = 0 ∧ (r.step q.n f).tr = r.tr + 1 ∧ b' = s.wr ∧ (r.step q.n f).k.ph = 1) :=
  (sq_read h.sq hC ht d hd).mono fun _ _ ⟨he, hs, hB⟩ => ⟨he, hB, by
    rcases h.ri.read h.wi h.ok with ⟨e, hr⟩ | ⟨e0, e, hr, e1⟩
    · exact ⟨b, ⟨hs, h.wi, hr, h.ok⟩, .inl ⟨e, rfl⟩⟩
    · exact ⟨s.wr, ⟨hs, h.wi, hr, h.ok⟩, .inr ⟨e0, e, rfl, e1⟩⟩⟩
/-- Made, and the counter laid. -/
theorem st_new {g b' n B G cap R : Nat} {at' L : Nat} {F : Nat → Ver} {x : Int} (hM : MemAt w g b' 60 (fun _ => 0) 0) (hW : WriterAt w B ((wr0 at' n L (flatV n F)).k.ph : Nat) (some ⟨G, 0, none⟩) cap (wr0 at' n L (flatV n F))) (hR : ReaderAt w R ((rd0 at' n).k.ph : Nat) (rd0 at' n)) (hG : GOk w)
    (hV : Wf (L * n) (flatV n F)) (h6 : 6 ≤ H) (h1 : H ≤ g ∧ H ≤ b' ∧ g < G ∧ b' < G ∧ G < B ∧ B < R) (hok : Cfg.Ok ⟨at', n, L, F, x⟩ 60) (i : Int) (hi : i = at') :
    Calls Tryd.prog 15 #[.pointer (some ⟨g, 0, none⟩), .int .i64 i, .int .u32 x] w fun e w' => e = .returned (.int .i64 0) ∧ St H w' ⟨g, b', 60, B, R, some ⟨G, 0, none⟩, cap⟩ ⟨at', n, L, F, x⟩ 1 (wr0 at' n L (flatV n F)) (upd (fun _ => 0) at' x) (rd0 at' n) 0 ∧ Below H w w' := by
  have hat : at' < 60 := by have := hok.m1; have h : at' + n < 60 := this; omega
  have hS : Sq H w ⟨g, b', 60, B, R, some ⟨G, 0, none⟩, cap⟩ (fun _ => 0) 0 (wr0 at' n L (flatV n F)) (rd0 at' n) := sq_of hM hW hR hG (fun _ _ => by decide) hV h6 h1 (by omega)
  refine (sq_store hS (by omega) at' i x hi hat ⟨hok.c1.1, hok.c1.2.1⟩).mono ?_
  rintro e w' ⟨he, hs, hB⟩
  refine ⟨he, ⟨hs, winv0 ⟨at', n, L, F, x⟩ 60 hok _ ?_ fun j hj => ?_, rinv0 ⟨at', n, L, F, x⟩ 60 hok _ _ 0 (Nat.zero_le _), hok⟩, hB⟩
  · show upd _ at' x at' = x; rw [upd_same]
  · show upd _ at' x (at' + 1 + j) = 0; rw [upd_other (by omega)]
theorem St.p3 (h : St H w q cf C s f r b) : decide (3 ≤ r.k.ph) = decide (r.k.ph = 3) := decide_eq_decide.2 (by have := h.ri.p3; omega)
/-- The counter stood still since the reader began: it goes on to its end. -/
theorem St.calm (h : St H w q cf C s f r b) (hp : r.k.ph ≠ 0) (hc : f cf.at' = r.cn) : (r.step q.n f).k.ph ≠ 0 ∧ (r.step q.n f).cn = r.cn := by
  have h3 := h.ri.p3
  have hc3 : r.k.ph = 1 ∨ r.k.ph = 2 ∨ r.k.ph = 3 := by omega
  rcases hc3 with e | e | e
  · obtain ⟨i, hi, him, _, h1⟩ := h.ri.whin h.ok (by omega)
    rw [Rd.step1 e hi him]
    refine ⟨?_, rfl⟩
    show r.k.pass.ph ≠ 0
    unfold Wk.pass
    split
    · show 1 ≠ 0; omega
    · show 2 ≠ 0; omega
  · obtain ⟨i, hi, him, h1, _⟩ := h.ri.whin h.ok (by omega)
    have h1 := h1 (by omega)
    subst h1
    rw [Rd.step2 e hi him]
    refine ⟨?_, rfl⟩
    show (if f cf.at' = r.cn then 3 else 0) ≠ 0
    rw [if_pos hc]; omega
  · rw [Rd.step_over (by omega)]; exact ⟨hp, rfl⟩
theorem St.began (h : St H w q cf C s f r b) (hp : r.k.ph = 0) (h1 : (r.step q.n f).k.ph = 1) : (r.step q.n f).cn = f cf.at' := by
  obtain ⟨i, hi, him, h2, _⟩ := h.ri.whin h.ok (by omega)
  have h2 := h2 (by omega)
  subst h2
  rw [Rd.step0 hp hi him] at h1 ⊢
  by_cases hx : f cf.at' % 2 = 1
  · rw [if_pos hx] at h1; omega
  · rw [if_neg hx]
end
end Go.Proofs.YtoaaeamogpdcgaaDoor
