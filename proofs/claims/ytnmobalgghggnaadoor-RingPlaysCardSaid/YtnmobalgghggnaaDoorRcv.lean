/-
  A receiver in memory; the parts of its steps.
-/
import Derived.Test.YtnmobalgghggnaaDoorSnd
namespace Go.Proofs.YtnmobalgghggnaaDoor
open Go.RowKit

/-- What a receiver does next. -/
def nextR (q : Nat) : Value :=
  match q with
  | 0 => .func (.func 54) #[] #[]
  | 1 => .func (.func 55) #[] #[]
  | 2 => .func (.func 56) #[] #[]
  | 3 => .func (.func 57) #[] #[]
  | 4 => .func (.func 58) #[] #[]
  | _ => .nilFunc
/-- A receiver in block B; v: what it got, as a slice; q: its next step, as it is stored. -/
structure ReceiverAt (w : World) (B : Nat) (v : Value) (q : Nat) (r : Rv) : Prop where
  e : ∃ o x p, EndAt w B r.at' r.pl r.sz o x p ∧ (r.ph < 5 → o = r.oth ∧ x = r.own ∧ p = r.pa)
  c6 : w.cell? ⟨B, 6, none⟩ = some (nextR q)
  c7 : w.cell? ⟨B, 7, none⟩ = some (.int .i64 r.times)
  ld : ∃ l, LetAt w B 8 l ∧ (r.ph < 5 → ∀ j, j < 9 → l j = r.ld j)
  c17 : w.cell? ⟨B, 17, none⟩ = some v
  own : Grow w 9 v (r.got.map Value.string)
  ne : v.ownBlock ≠ some B
section
variable {w w' : World} {B : Nat} {v : Value} {q : Nat} {r : Rv}
theorem ReceiverAt.ltB (h : ReceiverAt w B v q r) : B < w.heap.size := cell_lt h.c6
theorem ReceiverAt.fz (h : ReceiverAt w B v q r) (j : Nat) : w.frozen? ⟨B, j, none⟩ = false := by
  obtain ⟨_, _, _, h1, _⟩ := h.e
  exact h1.fz j
theorem ReceiverAt.end (h : ReceiverAt w B v q r) (hp : r.ph < 5) : EndAt w B r.at' r.pl r.sz r.oth r.own r.pa := by
  obtain ⟨o, x, p, h1, h2⟩ := h.e
  obtain ⟨rfl, rfl, rfl⟩ := h2 hp
  exact h1
theorem ReceiverAt.let (h : ReceiverAt w B v q r) (hp : r.ph < 5) : LetAt w B 8 r.ld := fun j hj => by
  obtain ⟨l, h1, h2⟩ := h.ld
  rw [← h2 hp j hj]
  exact h1 j hj
theorem LetAt.of_block {w w' : World} {B o : Nat} {l : Nat → Int} (h : LetAt w B o l) (e : w'.heap[B]? = w.heap[B]?) : LetAt w' B o l := fun j hj => by rw [World.cell?_of_block (w := w) e]; exact h j hj
theorem ReceiverAt.same (h : ReceiverAt w B v q r) (e1 : w'.heap[B]? = w.heap[B]?) (e3 : ∀ x, v.ownBlock = some x → w'.heap[x]? = w.heap[x]?) : ReceiverAt w' B v q r := by
  obtain ⟨o, x, p, h1, h2⟩ := h.e
  obtain ⟨l, h3, h4⟩ := h.ld
  exact ⟨⟨o, x, p, h1.same e1, h2⟩, by rw [World.cell?_of_block (w := w) e1]; exact h.c6, by rw [World.cell?_of_block (w := w) e1]; exact h.c7, ⟨l, h3.of_block e1, h4⟩, by rw [World.cell?_of_block (w := w) e1]; exact h.c17, h.own.same e3, h.ne⟩
theorem ReceiverAt.chg {S : Nat → Prop} (h : ReceiverAt w B v q r) (hC : Chg S w w') (h1 : ¬ S B) (h3 : ∀ x, v.ownBlock = some x → ¬ S x) : ReceiverAt w' B v q r :=
  h.same (hC.block _ h.ltB h1) (fun x hx => hC.block _ (h.own.lt hx) (h3 x hx))
theorem ReceiverAt.keep (h : ReceiverAt w B v q r) (hB : Below w.heap.size w w') : ReceiverAt w' B v q r := h.chg (S := fun _ => False) (Chg.of_below hB) id (fun _ _ => id)
theorem ReceiverAt.drew (h : ReceiverAt w B v q r) : ReceiverAt w.drew B v q r := h.same rfl (fun _ _ => rfl)
theorem ReceiverAt.drewN (h : ReceiverAt w B v q r) (n : Nat) : ReceiverAt (w.drewN n) B v q r := h.same rfl (fun _ _ => rfl)
theorem LetAt.put {w : World} {B o k : Nat} {l : Nat → Int} (h : LetAt w B o l) {u : Value} (hk : k < o) : LetAt (w.setCell ⟨B, k, none⟩ u) B o l := fun j hj => by
  rw [World.cell?_setCell_other _ _ _ _ (off_ne (by omega))]; exact h j hj
/-- A cell of the receiver's block changes. -/
theorem ReceiverAt.put (h : ReceiverAt w B v q r) (j : Nat) (u : Value) {r' : Rv} {q' : Nat} (h1 : r'.times = r.times) (h2 : r'.got = r.got)
    (he : ∃ o x p, EndAt (w.setCell ⟨B, j, none⟩ u) B r'.at' r'.pl r'.sz o x p ∧ (r'.ph < 5 → o = r'.oth ∧ x = r'.own ∧ p = r'.pa))
    (h6 : (w.setCell ⟨B, j, none⟩ u).cell? ⟨B, 6, none⟩ = some (nextR q')) (hl : ∃ l, LetAt (w.setCell ⟨B, j, none⟩ u) B 8 l ∧ (r'.ph < 5 → ∀ j, j < 9 → l j = r'.ld j)) (hj : j ≠ 7 ∧ j < 17) : ReceiverAt (w.setCell ⟨B, j, none⟩ u) B v q' r' := by
  refine ⟨he, h6, ?_, hl, ?_, ?_, h.ne⟩
  · rw [World.cell?_setCell_other _ _ _ _ (off_ne (by omega)), h1]; exact h.c7
  · rw [World.cell?_setCell_other _ _ _ _ (off_ne (by omega))]; exact h.c17
  · rw [h2]; exact h.own.same fun x hx => Below.heap_setCell _ _ _ _ (fun e => h.ne (by rw [hx, e]))
theorem ReceiverAt.next (h : ReceiverAt w B v q r) (q' : Nat) : ReceiverAt (w.setCell ⟨B, 6, none⟩ (nextR q')) B v q' r := by
  obtain ⟨o, x, p, h1, h2⟩ := h.e
  obtain ⟨l, h3, h4⟩ := h.ld
  exact h.put 6 _ rfl rfl ⟨o, x, p, h1.far (Nat.le_refl _) _, h2⟩ (World.cell?_setCell_same _ _ _ h.c6) ⟨l, h3.put (by omega), h4⟩ (by omega)
theorem ReceiverAt.over (h : ReceiverAt w B v q r) {r' : Rv} (h1 : r'.at' = r.at') (h2 : r'.pl = r.pl) (h3 : r'.sz = r.sz) (h4 : r'.times = r.times) (h5 : r'.got = r.got) (h6 : r'.ph = 5) : ReceiverAt w B v q r' := by
  obtain ⟨o, x, p, h7, _⟩ := h.e
  obtain ⟨l, h8, _⟩ := h.ld
  exact ⟨⟨o, x, p, by rw [h1, h2, h3]; exact h7, fun e => by omega⟩, h.c6, by rw [h4]; exact h.c7, ⟨l, h8, fun e => by omega⟩, h.c17, by rw [h5]; exact h.own, h.ne⟩
theorem ReceiverAt.lost (h : ReceiverAt w B v q r) : ReceiverAt w B v q { r with ph := 5 } := h.over rfl rfl rfl rfl rfl rfl
/-- Another phase. -/
theorem ReceiverAt.think (h : ReceiverAt w B v q r) (hp : r.ph < 5) (k : Nat) : ReceiverAt w B v q { r with ph := k } :=
  ⟨⟨_, _, _, h.end hp, fun _ => ⟨rfl, rfl, rfl⟩⟩, h.c6, h.c7, ⟨_, h.let hp, fun _ _ _ => rfl⟩, h.c17, h.own, h.ne⟩
theorem ReceiverAt.setO (h : ReceiverAt w B v q r) (hp : r.ph < 5) (x : Int) : ReceiverAt (w.setCell ⟨B, 3, none⟩ (.int .u32 x)) B v q { r with oth := x } :=
  h.put 3 _ rfl rfl ⟨_, _, _, (h.end hp).setO x, fun _ => ⟨rfl, rfl, rfl⟩⟩ (by rw [World.cell?_setCell_other _ _ _ _ (off_ne (by omega))]; exact h.c6) ⟨_, (h.let hp).put (by omega), fun _ _ _ => rfl⟩ (by omega)
theorem ReceiverAt.setX (h : ReceiverAt w B v q r) (hp : r.ph < 5) (x : Int) : ReceiverAt (w.setCell ⟨B, 4, none⟩ (.int .u32 x)) B v q { r with own := x } :=
  h.put 4 _ rfl rfl ⟨_, _, _, (h.end hp).setX x, fun _ => ⟨rfl, rfl, rfl⟩⟩ (by rw [World.cell?_setCell_other _ _ _ _ (off_ne (by omega))]; exact h.c6) ⟨_, (h.let hp).put (by omega), fun _ _ _ => rfl⟩ (by omega)
theorem ReceiverAt.setP (h : ReceiverAt w B v q r) (hp : r.ph < 5) (x : Nat) (y : Int) (hy : y = x) : ReceiverAt (w.setCell ⟨B, 5, none⟩ (.int .i64 y)) B v q { r with pa := x } := by
  subst hy
  exact h.put 5 _ rfl rfl ⟨_, _, _, (h.end hp).setP x, fun _ => ⟨rfl, rfl, rfl⟩⟩ (by rw [World.cell?_setCell_other _ _ _ _ (off_ne (by omega))]; exact h.c6) ⟨_, (h.let hp).put (by omega), fun _ _ _ => rfl⟩ (by omega)
theorem ReceiverAt.setL (h : ReceiverAt w B v q r) (hp : r.ph < 5) (i k : Nat) (hk : k = 8 + i) (hi : i < 9) (x : Int) : ReceiverAt (w.setCell ⟨B, k, none⟩ (.int .u32 x)) B v q { r with ld := upd r.ld i x } := by
  subst hk
  refine h.put (8 + i) _ rfl rfl ⟨_, _, _, (h.end hp).far (by omega) _, fun _ => ⟨rfl, rfl, rfl⟩⟩ (by rw [World.cell?_setCell_other _ _ _ _ (off_ne (by omega))]; exact h.c6) ⟨upd r.ld i x, fun j hj => ?_, fun _ _ _ => rfl⟩ (by omega)
  by_cases e : j = i
  · subst e
    rw [upd_same]
    exact World.cell?_setCell_same _ _ _ (h.let hp j hj)
  · rw [upd_other e, World.cell?_setCell_other _ _ _ _ (off_ne (by omega))]
    exact h.let hp j hj
end
theorem receives_any (q : Nat) (w : World) (h : q ≤ 5) : Calls Tryd.prog 33 #[.int .i64 q] w fun e w' => e = .returned (nextR q) ∧ w = w' := by
  have hmf : ∀ (fn : Fn) (first cap : Array Value) (w : World), (Instr.makeFunc fn first cap).run Tryd.prog w = .ok (.func fn first cap) w := fun _ _ _ _ => rfl
  have h6 : q = 0 ∨ q = 1 ∨ q = 2 ∨ q = 3 ∨ q = 4 ∨ q = 5 := by omega
  rcases h6 with rfl | rfl | rfl | rfl | rfl | rfl
  all_goals
    go_enter Tryd.func33, Tryd.ntmps33
    go_wp2_with fail
    go_ret
    exact ⟨rfl, rfl⟩
section
variable (B g b n : Nat) (v : Value) (q : Nat) (r : Rv) (f : Nat → Int) (c : Int) (w : World)
set_option maxHeartbeats 2000000 in
theorem rahead_any (A : Option Addr) (k ca t : Nat) (w : World) (h : w.cell? ⟨B, 17, none⟩ = some (.slice A k ca)) (h7 : w.cell? ⟨B, 7, none⟩ = some (.int .i64 t)) :
    Calls Tryd.prog 34 #[.pointer (some ⟨B, 0, none⟩)] w fun e w' => e = .returned (.int .i64 (if k = t then 5 else 0 : Nat)) ∧ ∃ m, w' = w.drewN m := by
  by_cases hk : k = t
  · subst hk
    go_enter Tryd.func34, Tryd.ntmps34
    go_wp2_with fail
    go_quiet (fail)
    go_wp2_with fail
    go_ret
    exact ⟨rfl, _, rfl⟩
  · rw [if_neg hk]
    go_enter Tryd.func34, Tryd.ntmps34
    go_wp2_with fail
    go_quiet (fail)
    go_wp2_with fail
    go_ret
    exact ⟨rfl, _, rfl⟩
/-- What a close leaves. -/
def CloseR (B : Nat) (v : Value) (q : Nat) (r : Rv) (m : ByteArray) (w : World) (e : Ending) (w' : World) : Prop :=
  e = .returned (.int .i64 ((r.close m).ph : Nat)) ∧ ∃ v', ReceiverAt w' B v' q (r.close m) ∧ Chg (fun k => k = B ∨ v.ownBlock = some k) w w' ∧ (v'.ownBlock = v.ownBlock ∨ ∃ k, v'.ownBlock = some k ∧ w.heap.size ≤ k)
theorem rclose_fin {B : Nat} {v : Value} {q : Nat} {r : Rv} {m : ByteArray} {w w2 : World} {g' cap' : Nat} (hT : ReceiverAt w B v q r) (hp : r.ph < 5)
    (hg2 : Grow w2 9 (.slice (some ⟨g', 0, none⟩) (r.got.length + 1) cap') (r.got.map Value.string ++ [.string m])) (hC2 : Chg (fun k => v.ownBlock = some k) w w2) (hat : v.ownBlock = some g' ∨ w.heap.size ≤ g') :
    ∃ v', ReceiverAt (w2.setCell ⟨B, 17, none⟩ (.slice (some ⟨g', 0, none⟩) (r.got.length + 1) cap')) B v' q (r.close m) ∧
      Chg (fun k => k = B ∨ v.ownBlock = some k) w (w2.setCell ⟨B, 17, none⟩ (.slice (some ⟨g', 0, none⟩) (r.got.length + 1) cap')) ∧ (v'.ownBlock = v.ownBlock ∨ ∃ k, v'.ownBlock = some k ∧ w.heap.size ≤ k) := by
  have hB := hT.ltB
  have hne := hT.ne
  have hgB : g' ≠ B := fun e => by
    rcases hat with h | h
    · exact hne (by rw [h, e])
    · omega
  have e0 := hC2.block B hB hne
  refine ⟨.slice (some ⟨g', 0, none⟩) (r.got.length + 1) cap', ⟨⟨_, _, _, ((hT.end hp).same e0).far (by omega) _, fun _ => ⟨rfl, rfl, rfl⟩⟩, ?_, ?_, ⟨r.ld, fun j hj => ?_, fun _ _ _ => rfl⟩, ?_, ?_, ?_⟩, ?_, ?_⟩
  · rw [World.cell?_setCell_other _ _ _ _ (off_ne (by omega)), World.cell?_of_block (w := w) e0]; exact hT.c6
  · rw [World.cell?_setCell_other _ _ _ _ (off_ne (by omega)), World.cell?_of_block (w := w) e0]; exact hT.c7
  · rw [World.cell?_setCell_other _ _ _ _ (off_ne (by omega)), World.cell?_of_block (w := w) e0]; exact hT.let hp j hj
  · have h8' : w2.cell? ⟨B, 17, none⟩ = some v := by rw [World.cell?_of_block (w := w) e0]; exact hT.c17
    exact World.cell?_setCell_same _ _ _ h8'
  · have hmap : (r.close m).got.map Value.string = r.got.map Value.string ++ [.string m] := by
      show (r.got ++ [m]).map Value.string = _
      simp
    rw [hmap]
    refine hg2.same fun y hy => ?_
    injection hy with hy
    subst hy
    rw [Below.heap_setCell _ _ _ _ hgB]
  · exact fun e => by injection e with e; exact hgB e
  · exact (hC2.mono fun _ h => .inr h).set (a := ⟨B, 17, none⟩) (.inl rfl) _
  · rcases hat with h | h
    · exact .inl h.symm
    · exact .inr ⟨g', rfl, h⟩
theorem CloseR.drewN {v' : Value} {w w' : World} {m : Nat} {r : Rv} {B : Nat} {v : Value} {q : Nat} (h : ReceiverAt w' B v' q r ∧ Chg (fun k => k = B ∨ v.ownBlock = some k) w w') : ReceiverAt (w'.drewN m) B v' q r ∧ Chg (fun k => k = B ∨ v.ownBlock = some k) w (w'.drewN m) :=
  ⟨h.1.drewN m, h.2.trans (Chg.of_below (Qt.below ⟨m, rfl⟩))⟩
set_option maxHeartbeats 4000000 in
set_option maxRecDepth 100000 in
theorem rclose_any (x : ByteArray) (hT : ReceiverAt w B v q r) (hp : r.ph < 5) (hW : r.Wf) :
    Calls Tryd.prog 69 #[.pointer (some ⟨B, 0, none⟩), .string x] w fun e w' => CloseR B v q r x w e w' := by
  have hm := hW.more hp
  have hfew := hW.few
  have h7 := hT.c7
  have h17 := hT.c17
  have HT := Lib.hid hT
  have HH := Lib.hid (And.intro hp (And.intro hm hfew))
  have hah : ∀ (A : Option Addr) (ca : Nat) (W : World), W.cell? ⟨B, 17, none⟩ = some (.slice A (r.got.length + 1) ca) → W.cell? ⟨B, 7, none⟩ = some (.int .i64 r.times) → Calls Tryd.prog 34 #[.pointer (some ⟨B, 0, none⟩)] W fun e w' => e = .returned (.int .i64 ((r.close x).ph : Nat)) ∧ ∃ m, w' = W.drewN m := fun A ca W h h7 => rahead_any B A (r.got.length + 1) ca r.times W h h7
  obtain ⟨R, hR⟩ : ∃ R, R = (r.close x).ph := ⟨_, rfl⟩
  rw [← hR] at hah
  have HAH := Lib.hid hah
  have HPH := Lib.hid hR
  clear hah hR
  clear hT hp hm hfew hW
  go_enter Tryd.func69, Tryd.ntmps69
  go_wp2_with (at_builtin; refine wpList_app rfl _ _ 24 9 (.string ⟨#[]⟩) 16 rfl Tryd.underlying24 info9 rfl (by decide) (u := .string x) HT.out.own (by rw [List.length_map]; have := HH.out; omega) rfl (by rfl) (by rfl) ?_)
  intro g' cap' w2 hg2 hC2 hat2 hlt2
  have k7 := hC2.cell h7 HT.out.ne
  have k17 := hC2.cell h17 HT.out.ne
  have z17 : w2.frozen? ⟨B, 17, none⟩ = false := (hC2.frozen (a := ⟨B, 17, none⟩) HT.out.ltB HT.out.ne).trans (HT.out.fz 17)
  have HX := Lib.hid (And.intro hg2 (And.intro hC2 (And.intro hat2 hlt2)))
  clear hg2 hC2 hat2 hlt2 h7 h17
  go_wp2_with fail
  with_reducible refine (HAH.out (some ⟨g', 0, none⟩) cap' _ (World.cell?_setCell_same _ _ _ k17) (by rw [World.cell?_setCell_other _ _ _ _ (off_ne (by omega))]; exact k7)).mono ?_
  rintro e w3 ⟨rfl, m3, rfl⟩
  go_wp2_with fail
  go_ret
  obtain ⟨v', h1, h2, h3⟩ := rclose_fin HT.out HH.out.1 HX.out.1 HX.out.2.1 HX.out.2.2.1
  obtain ⟨h1, h2⟩ := CloseR.drewN (m := m3) ⟨h1, h2⟩
  exact ⟨by rw [← HPH.out]; rfl, v', h1, h2, h3⟩
end
end Go.Proofs.YtnmobalgghggnaaDoor
