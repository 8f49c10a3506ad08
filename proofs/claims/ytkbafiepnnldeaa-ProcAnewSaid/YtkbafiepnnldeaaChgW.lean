/-
  What becomes of a process: the closures; leave, join, settle, change.
-/
import Derived.Test.YtkbafiepnnldeaaTab
import Derived.Deep.RegionLaw
namespace Go.Proofs.Ytkbafiepnnldeaa
open Go.RowKit

/-- One process has become another one. -/
def BecP (ba : Nat) (l : List Pr) (k : Nat) (p : Pr) (w w' : World) : Prop := AllAt w' ba (l.set k p) ∧ Chg (fun x => x = ba) w w'
theorem mk1_all {w : World} {ba : Nat} {l : List Pr} (h : AllAt w ba l) (p : Pr) : AllAt (mk1 w p) ba l := h.same ((mk1_bel w p).block _ h.lt)
/-- Three stores behind a new box. -/
theorem become3 {w w1 : World} {ba k : Nat} {l : List Pr} (h : AllAt w1 ba l) (hk : k < l.length) (hB : Below w.heap.size w w1) (p : Pr) :
    BecP ba l k p w (((w1.setCell ⟨ba, k * 3, none⟩ (nV p.st)).setCell ⟨ba, k * 3 + 1, none⟩ (.bool p.held)).setCell ⟨ba, k * 3 + 2, none⟩ (nV p.pr)) :=
  ⟨h.three hk p, (Chg.of_below hB).trans (Chg.set (S := fun x => x = ba) (a := ⟨ba, k * 3 + 2, none⟩) (Chg.set (S := fun x => x = ba) (a := ⟨ba, k * 3 + 1, none⟩) (Chg.set (S := fun x => x = ba) (a := ⟨ba, k * 3, none⟩) (Chg.refl w1) rfl _) rfl _) rfl _)⟩
theorem become1 {w : World} {ba k j : Nat} {l : List Pr} (h : AllAt w ba l) (hk : k < l.length) (hj : j < 3) (p : Pr) (v : Value) (hv : v = pc p j) (ho : ∀ i, i < 3 → i ≠ j → pc p i = pc (l.getD k Pr.nil) i) :
    BecP ba l k p w (w.setCell ⟨ba, k * 3 + j, none⟩ v) := ⟨h.one hk hj p v hv ho, Chg.set (S := fun x => x = ba) (a := ⟨ba, k * 3 + j, none⟩) (Chg.refl w) rfl _⟩
theorem three_cases {P : Nat → Prop} (h0 : P 0) (h1 : P 1) (h2 : P 2) : ∀ i, i < 3 → P i := fun i hi => by
  match i, hi with
  | 0, _ => exact h0
  | 1, _ => exact h1
  | 2, _ => exact h2
theorem become_block {ba k : Nat} {l : List Pr} (w : World) (h : AllAt w ba l) (hk : k < l.length) {p : Pr} (hp : l.getD k Pr.nil = p) : Calls Try.prog 43 #[.pointer (some ⟨ba, k * 3, none⟩)] w fun e w' => e = .returned (.tuple #[]) ∧ BecP ba l k ⟨2, p.held, p.pr⟩ w w' := by
  obtain ⟨c0, c1, c2⟩ := h.at hk
  rw [hp] at c0 c1 c2
  have f0 := h.fz (k * 3)
  have HF := Lib.hid (become1 h hk (j := 0) (by decide) ⟨2, p.held, p.pr⟩ (nV 2) rfl (three_cases (fun c => absurd rfl c) (fun _ => by rw [hp]; rfl) (fun _ => by rw [hp]; rfl)))
  clear h hk hp
  go_enter Try.func43, Try.ntmps43
  go_wp2_with fail
  go_end0
  exact ⟨rfl, HF.out⟩
theorem become_wake {ba k : Nat} {l : List Pr} (w : World) (h : AllAt w ba l) (hk : k < l.length) {p : Pr} (hp : l.getD k Pr.nil = p) : Calls Try.prog 45 #[.pointer (some ⟨ba, k * 3, none⟩)] w fun e w' => e = .returned (.tuple #[]) ∧ BecP ba l k ⟨1, p.held, p.pr⟩ w w' := by
  obtain ⟨c0, c1, c2⟩ := h.at hk
  rw [hp] at c0 c1 c2
  have f0 := h.fz (k * 3)
  have HF := Lib.hid (become1 h hk (j := 0) (by decide) ⟨1, p.held, p.pr⟩ (nV 1) rfl (three_cases (fun c => absurd rfl c) (fun _ => by rw [hp]; rfl) (fun _ => by rw [hp]; rfl)))
  clear h hk hp
  go_enter Try.func45, Try.ntmps45
  go_wp2_with fail
  go_end0
  exact ⟨rfl, HF.out⟩
theorem become_susp {ba k : Nat} {l : List Pr} (w : World) (h : AllAt w ba l) (hk : k < l.length) {p : Pr} (hp : l.getD k Pr.nil = p) : Calls Try.prog 49 #[.pointer (some ⟨ba, k * 3, none⟩)] w fun e w' => e = .returned (.tuple #[]) ∧ BecP ba l k ⟨p.st, true, p.pr⟩ w w' := by
  obtain ⟨c0, c1, c2⟩ := h.at hk
  rw [hp] at c0 c1 c2
  have f0 := h.fz (k * 3 + 1)
  have HF := Lib.hid (become1 h hk (j := 1) (by decide) ⟨p.st, true, p.pr⟩ (.bool true) rfl (three_cases (fun _ => by rw [hp]; rfl) (fun c => absurd rfl c) (fun _ => by rw [hp]; rfl)))
  clear h hk hp
  go_enter Try.func49, Try.ntmps49
  go_wp2_with fail
  go_end0
  exact ⟨rfl, HF.out⟩
theorem become_res {ba k : Nat} {l : List Pr} (w : World) (h : AllAt w ba l) (hk : k < l.length) {p : Pr} (hp : l.getD k Pr.nil = p) : Calls Try.prog 51 #[.pointer (some ⟨ba, k * 3, none⟩)] w fun e w' => e = .returned (.tuple #[]) ∧ BecP ba l k ⟨p.st, false, p.pr⟩ w w' := by
  obtain ⟨c0, c1, c2⟩ := h.at hk
  rw [hp] at c0 c1 c2
  have f0 := h.fz (k * 3 + 1)
  have HF := Lib.hid (become1 h hk (j := 1) (by decide) ⟨p.st, false, p.pr⟩ (.bool false) rfl (three_cases (fun _ => by rw [hp]; rfl) (fun c => absurd rfl c) (fun _ => by rw [hp]; rfl)))
  clear h hk hp
  go_enter Try.func51, Try.ntmps51
  go_wp2_with fail
  go_end0
  exact ⟨rfl, HF.out⟩
theorem become_raise {ba k q : Nat} {l : List Pr} (pr : Int) (w : World) (h : AllAt w ba l) (hk : k < l.length) {p : Pr} (hp : l.getD k Pr.nil = p) (hq : w.cell? ⟨q, 0, none⟩ = some (nV pr)) : Calls Try.prog 52 #[.pointer (some ⟨ba, k * 3, none⟩), .pointer (some ⟨q, 0, none⟩)] w fun e w' => e = .returned (.tuple #[]) ∧ BecP ba l k ⟨p.st, p.held, pr⟩ w w' := by
  obtain ⟨c0, c1, c2⟩ := h.at hk
  rw [hp] at c0 c1 c2
  have f0 := h.fz (k * 3 + 2)
  have HF := Lib.hid (become1 h hk (j := 2) (by decide) ⟨p.st, p.held, pr⟩ (nV pr) rfl (three_cases (fun _ => by rw [hp]; rfl) (fun _ => by rw [hp]; rfl) (fun c => absurd rfl c)))
  clear h hk hp
  go_enter Try.func52, Try.ntmps52
  go_wp2_with fail
  go_end0
  exact ⟨rfl, HF.out⟩
theorem list_set_self {l : List Pr} {k : Nat} (hk : k < l.length) : l.set k (l.getD k Pr.nil) = l := by
  rw [List.getD_eq_getElem?_getD, List.getElem?_eq_getElem hk]
  exact List.set_getElem_self hk
theorem become_yield {ba k : Nat} {l : List Pr} (w : World) (h : AllAt w ba l) (hk : k < l.length) {p : Pr} (hp : l.getD k Pr.nil = p) : Calls Try.prog 38 #[.pointer (some ⟨ba, k * 3, none⟩)] w fun e w' => e = .returned (.tuple #[]) ∧ BecP ba l k p w w' := by
  have HF : Hid (BecP ba l k p w w) := ⟨by rw [← hp, list_set_self hk]; exact h, Chg.refl w⟩
  clear h hk hp
  go_enter Try.func38, Try.ntmps38
  go_wp2_with fail
  go_end0
  exact ⟨rfl, HF.out⟩
theorem become_start {ba k : Nat} {l : List Pr} (w : World) (h : AllAt w ba l) (hk : k < l.length) {p : Pr} (hp : l.getD k Pr.nil = p) : Calls Try.prog 41 #[.pointer (some ⟨ba, k * 3, none⟩)] w fun e w' => e = .returned (.tuple #[]) ∧ BecP ba l k ⟨1, false, p.pr⟩ w w' := by
  have HS := Lib.hid (fun x W => started_any x W)
  obtain ⟨c0, c1, c2⟩ := h.at hk
  rw [hp] at c0 c1 c2
  have hm := mk1_all h ⟨1, false, p.pr⟩
  obtain ⟨d0, d1, d2⟩ := hm.at hk
  rw [hp] at d0 d1 d2
  have f0 := hm.fz (k * 3)
  have f1 := hm.fz (k * 3 + 1)
  have f2 := hm.fz (k * 3 + 2)
  have HF := Lib.hid (become3 hm hk (mk1_bel w _) ⟨1, false, p.pr⟩)
  clear h hk hm hp
  go_enter Try.func41, Try.ntmps41
  go_wp2_with fail
  with_reducible refine (HS.out _ _).mono ?_
  rintro e w1 ⟨rfl, hw⟩
  rw [← hw] at d0 d1 d2 f0 f1 f2 HF
  clear hw
  go_wp2_with fail
  go_end0
  exact ⟨rfl, HF.out⟩
theorem become_stop {g bi ba ci k q1 q2 n x : Nat} {l : List Pr} (w : World) (h : AllAt w ba l) (hk : k < l.length) (hn : n = l.length) {p : Pr} (hp : l.getD k Pr.nil = p) (b1 : w.cell? ⟨q1, 0, none⟩ = some (.pointer (some ⟨g, 0, none⟩))) (b2 : w.cell? ⟨q2, 0, none⟩ = some (nV (k : Int)))
    (c0 : w.cell? ⟨g, 0, none⟩ = some (.slice (some ⟨bi, 0, none⟩) n ci)) (hx : w.cell? ⟨bi, k, none⟩ = some (uV x)) (hxl : x ≤ 63) :
    Calls Try.prog 47 #[.pointer (some ⟨ba, k * 3, none⟩), .pointer (some ⟨q1, 0, none⟩), .pointer (some ⟨q2, 0, none⟩)] w fun e w' => e = .returned (.tuple #[]) ∧ BecP ba l k ⟨0, false, (x : Int)⟩ w w' := by
  have HS := Lib.hid (fun x W => stopped_any x W)
  have hd : AllAt w.drew ba l := h.same rfl
  have hm := mk1_all hd ⟨0, false, (x : Int)⟩
  obtain ⟨d0, d1, d2⟩ := hm.at hk
  rw [hp] at d0 d1 d2
  have f0 := hm.fz (k * 3)
  have f1 := hm.fz (k * 3 + 1)
  have f2 := hm.fz (k * 3 + 2)
  have HF := Lib.hid (become3 hm hk (((below_dn w 1).trans (mk1_bel w.drew _)) : Below w.heap.size w (mk1 w.drew _)) ⟨0, false, (x : Int)⟩)
  have i0 : (0 : Int) ≤ (k : Int) := Int.natCast_nonneg _
  have i1 : (k : Int) < (n : Int) := by omega
  have i2 : IntKind.i64.wrap (x : Int) = (x : Int) := by rw [IntKind.wrap_i64]; omega
  clear h hk hm hp hd hn
  go_enter Try.func47, Try.ntmps47
  go_wp2_with fail
  go_region_law ((go_simp; (with_reducible refine (HS.out _ _).mono ?_); (rintro e w1 ⟨rfl, hw⟩); (rw [← hw] at d0 d1 d2 f0 f1 f2 HF); clear hw))
  all_goals go_wp2_with fail
  all_goals go_end0
  all_goals exact ⟨rfl, HF.out⟩
theorem leave1_any {q : Nat} (y i : Int) (w : World) (b : w.cell? ⟨q, 0, none⟩ = some (nV i)) : Calls Try.prog 57 #[nV y, .pointer (some ⟨q, 0, none⟩)] w fun e w' => e = .returned (.bool (!(!decide (y = i)))) ∧ Below w.heap.size w w' := by
  go_enter Try.func57, Try.ntmps57
  go_wp2_with fail
  go_ret
  exact ⟨by simp; rfl, Below.refl _ _⟩
def VoidP (g bi ba ci : Nat) (v : Value) (T : Tb) (w : World) (e : Ending) (w' : World) : Prop := e = .returned (.tuple #[]) ∧ TbP g bi ba ci v T w w'
/-- The queue is another one. -/
theorem TbAt.queue {w w1 w2 : World} {g bi ba ci : Nat} {v v' : Value} {T : Tb} {q' : List Int} (h : TbAt w g bi ba ci v T) (hB : Below w.heap.size w w1) (hN : Nums w2 v' q') (hC : Chg (fun k => v.ownBlock = some k) w1 w2) (hs : Slid v v' w1) : TbP g bi ba ci v ⟨T.first, T.l, q'⟩ w (w2.setCell ⟨g, 2, none⟩ v') := by
  have hne : ∀ x, v'.ownBlock = some x → x ≠ g ∧ x ≠ bi ∧ x ≠ ba := fun x hx => by
    have hg := h.ltg
    have hi := h.lti
    have ha := h.lta
    have hsz := hB.size
    rcases hs x hx with e | e
    · exact ⟨fun c => h.n4 (c ▸ e), fun c => h.n5 (c ▸ e), fun c => h.n6 (c ▸ e)⟩
    · omega
  have h1 := h.keep hB
  have h0' : Chg (fun k => k = g) w2 (w2.setCell ⟨g, 2, none⟩ v') := Chg.set (S := fun k => k = g) (a := ⟨g, 2, none⟩) (Chg.refl w2) rfl v'
  have c0 : w2.cell? ⟨g, 0, none⟩ = some _ := hC.cell h1.c0 h.n4
  have c1 : w2.cell? ⟨g, 1, none⟩ = some _ := hC.cell h1.c1 h.n4
  have c2 : w2.cell? ⟨g, 2, none⟩ = some _ := hC.cell h1.c2 h.n4
  have hC2 : Chg (Blk g bi ba v) w (w2.setCell ⟨g, 2, none⟩ v') := ((Chg.of_below hB).trans (hC.mono fun k hk => .inr (.inr (.inr hk)))).trans (h0'.mono fun k hk => .inl hk)
  refine ⟨v', ⟨?_, ?_, World.cell?_setCell_same _ _ _ c2, fun j => ?_, fun i hi => ?_, (h1.all.same (hC.block _ h1.lta h.n6)).same (h0'.block _ (Nat.lt_of_lt_of_le h1.lta hC.size) fun e => h.n2 e.symm), hN.chg h0' fun x hx e => (hne x hx).1 e, h.n1, h.n2, h.n3, fun e => (hne _ e).1 rfl, fun e => (hne _ e).2.1 rfl, fun e => (hne _ e).2.2 rfl, h.pos⟩, hC2, ?_⟩
  · rw [World.cell?_setCell_other _ _ _ _ (by intro e; simp only [Addr.mk.injEq] at e; omega)]; exact c0
  · rw [World.cell?_setCell_other _ _ _ _ (by intro e; simp only [Addr.mk.injEq] at e; omega)]; exact c1
  · rw [World.frozen?_setCell]; exact (hC.frozen (a := ⟨g, j, none⟩) h1.ltg h.n4).trans (h1.fz j)
  · rw [World.cell?_setCell_other _ _ _ _ (by intro e; simp only [Addr.mk.injEq] at e; exact h.n1 e.1)]; exact hC.cell (h1.first i hi) h.n5
  · exact fun x hx => (hs x hx).imp id fun e => Nat.le_trans hB.size e
theorem leave_any {g bi ba ci : Nat} {v : Value} {T : Tb} (i : Int) (w : World) (h : TbAt w g bi ba ci v T) (hn : T.q.length ≤ 100000) : Calls Try.prog 54 #[.pointer (some ⟨g, 0, none⟩), nV i] w fun e w' => VoidP g bi ba ci v ⟨T.first, T.l, gone T.q i⟩ w e w' := by
  have h1 := h.keep ((Below.refl w.heap.size w).alloc (Nat.le_refl _) (.cells #[nV i] 3))
  have hb : (w.alloc (.cells #[nV i] 3)).cell? ⟨w.heap.size, 0, none⟩ = some (nV i) := al_new _ _ _ 0 _ rfl rfl
  have hvn : ¬ v.ownBlock = some w.heap.size := fun e => by have := h.row.lt e; omega
  have HD := Lib.hid (delf_any 57 #[.pointer (some ⟨w.heap.size, 0, none⟩)] (fun y => !decide (y = i)) v T.q (w.alloc (.cells #[nV i] 3)) h1.row (enters_of Try.func57 rfl rfl) hn fun x W _ hC => leave1_any x i W (hC.cell hb hvn))
  have HH := Lib.hid h
  have c2 := h1.c2
  have e1 : w.heap.size < (w.alloc (.cells #[nV i] 3)).heap.size := by simp
  have HB := Lib.hid ((Below.refl w.heap.size w).alloc (Nat.le_refl _) (.cells #[nV i] 3))
  have hgl := h1.ltg
  have hf := h1.fz 2
  have hn4 := h.n4
  clear h1 hb hvn h
  go_enter Try.func54, Try.ntmps54
  go_wp2_with fail
  with_reducible refine HD.out.mono ?_
  rintro e w1 ⟨v', rfl, hN, hC, hs⟩
  have d2 : w1.cell? ⟨g, 2, none⟩ = some v := hC.cell c2 hn4
  have df : w1.frozen? ⟨g, 2, none⟩ = false := (hC.frozen (a := ⟨g, 2, none⟩) hgl hn4).trans hf
  have HF := Lib.hid (HH.out.queue HB.out hN hC (Slid.of (.inl hs)))
  obtain ⟨A, c, rfl, _⟩ := hN.len
  clear hN hC hs
  go_wp2_with fail
  go_end0
  exact ⟨rfl, HF.out⟩
end Go.Proofs.Ytkbafiepnnldeaa
