/-
  A sender in memory; the parts of its steps.
-/
import Derived.Test.YtnmobalgghggnaaDoorOwn
namespace Go.Proofs.YtnmobalgghggnaaDoor
open Go.RowKit

/-- What a sender does next. -/
def nextS (q : Nat) : Value :=
  match q with
  | 0 => .func (.func 49) #[] #[]
  | 1 => .func (.func 50) #[] #[]
  | 2 => .func (.func 51) #[] #[]
  | 3 => .func (.func 52) #[] #[]
  | 4 => .func (.func 53) #[] #[]
  | _ => .nilFunc
/-- A sender in block B; its letters in block LB; v: what became of its messages, as a slice; q: its next step, as it is stored. -/
structure SenderAt (w : World) (B LB : Nat) (v : Value) (q : Nat) (s : Sd) : Prop where
  e : ∃ o x p, EndAt w B s.at' s.pl s.sz o x p ∧ (s.ph < 5 → o = s.oth ∧ x = s.own ∧ p = s.pa)
  c6 : w.cell? ⟨B, 6, none⟩ = some (nextS q)
  c7 : ∃ A, w.cell? ⟨B, 7, none⟩ = some (.slice A (s.L.length - s.sent.length) (s.L.length - s.sent.length)) ∧ (s.sent.length < s.L.length → A = some ⟨LB, 9 * s.sent.length, none⟩)
  c8 : w.cell? ⟨B, 8, none⟩ = some v
  lt : ∀ i, i < s.L.length → LetAt w LB (9 * i) (letter (s.L.getD i ByteArray.empty))
  own : Grow w 4 v (s.sent.map Value.bool)
  ne : B ≠ LB ∧ v.ownBlock ≠ some B ∧ v.ownBlock ≠ some LB
  lb : LB < w.heap.size
section
variable {w w' : World} {B LB : Nat} {v : Value} {q : Nat} {s : Sd}
theorem SenderAt.ltB (h : SenderAt w B LB v q s) : B < w.heap.size := cell_lt h.c6
theorem SenderAt.fz (h : SenderAt w B LB v q s) (j : Nat) : w.frozen? ⟨B, j, none⟩ = false := by
  obtain ⟨_, _, _, h1, _⟩ := h.e
  exact h1.fz j
theorem SenderAt.end (h : SenderAt w B LB v q s) (hp : s.ph < 5) : EndAt w B s.at' s.pl s.sz s.oth s.own s.pa := by
  obtain ⟨o, x, p, h1, h2⟩ := h.e
  obtain ⟨rfl, rfl, rfl⟩ := h2 hp
  exact h1
theorem SenderAt.same (h : SenderAt w B LB v q s) (e1 : w'.heap[B]? = w.heap[B]?) (e2 : w'.heap[LB]? = w.heap[LB]?) (e3 : ∀ x, v.ownBlock = some x → w'.heap[x]? = w.heap[x]?) (e4 : w.heap.size ≤ w'.heap.size) : SenderAt w' B LB v q s := by
  obtain ⟨o, x, p, h1, h2⟩ := h.e
  obtain ⟨A, h3, h4⟩ := h.c7
  exact ⟨⟨o, x, p, h1.same e1, h2⟩, by rw [World.cell?_of_block (w := w) e1]; exact h.c6, ⟨A, by rw [World.cell?_of_block (w := w) e1]; exact h3, h4⟩, by rw [World.cell?_of_block (w := w) e1]; exact h.c8,
    fun i hi j hj => by rw [World.cell?_of_block (w := w) e2]; exact h.lt i hi j hj, h.own.same e3, h.ne, Nat.lt_of_lt_of_le h.lb e4⟩
theorem SenderAt.chg {S : Nat → Prop} (h : SenderAt w B LB v q s) (hC : Chg S w w') (h1 : ¬ S B) (h2 : ¬ S LB) (h3 : ∀ x, v.ownBlock = some x → ¬ S x) : SenderAt w' B LB v q s :=
  h.same (hC.block _ h.ltB h1) (hC.block _ h.lb h2) (fun x hx => hC.block _ (h.own.lt hx) (h3 x hx)) hC.size
theorem SenderAt.keep (h : SenderAt w B LB v q s) (hB : Below w.heap.size w w') : SenderAt w' B LB v q s := h.chg (S := fun _ => False) (Chg.of_below hB) id id (fun _ _ => id)
theorem SenderAt.drew (h : SenderAt w B LB v q s) : SenderAt w.drew B LB v q s := h.same rfl rfl (fun _ _ => rfl) (Nat.le_refl _)
theorem SenderAt.drewN (h : SenderAt w B LB v q s) (n : Nat) : SenderAt (w.drewN n) B LB v q s := h.same rfl rfl (fun _ _ => rfl) (Nat.le_refl _)
theorem off_ne {B i j : Nat} (h : i ≠ j) : (⟨B, i, none⟩ : Addr) ≠ ⟨B, j, none⟩ := fun e => by injection e with _ e _; exact h e
theorem blk_ne {B C i j : Nat} (h : B ≠ C) : (⟨B, i, none⟩ : Addr) ≠ ⟨C, j, none⟩ := fun e => by injection e with e _ _; exact h e
/-- A cell of the sender's block changes. -/
theorem SenderAt.put (h : SenderAt w B LB v q s) (j : Nat) (u : Value) {s' : Sd} {q' : Nat} (h1 : s'.L = s.L) (h2 : s'.sent = s.sent)
    (he : ∃ o x p, EndAt (w.setCell ⟨B, j, none⟩ u) B s'.at' s'.pl s'.sz o x p ∧ (s'.ph < 5 → o = s'.oth ∧ x = s'.own ∧ p = s'.pa))
    (h6 : (w.setCell ⟨B, j, none⟩ u).cell? ⟨B, 6, none⟩ = some (nextS q')) (hj : j ≤ 6) : SenderAt (w.setCell ⟨B, j, none⟩ u) B LB v q' s' := by
  obtain ⟨A, h3, h4⟩ := h.c7
  refine ⟨he, h6, ⟨A, ?_, ?_⟩, ?_, fun i hi k hk => ?_, ?_, h.ne, by simpa using h.lb⟩
  · rw [World.cell?_setCell_other _ _ _ _ (off_ne (by omega)), h1, h2]; exact h3
  · rw [h1, h2]; exact h4
  · rw [World.cell?_setCell_other _ _ _ _ (off_ne (by omega))]; exact h.c8
  · rw [World.cell?_setCell_other _ _ _ _ (blk_ne h.ne.1), h1]; exact h.lt i (by rw [← h1]; exact hi) k hk
  · rw [h2]; exact h.own.same fun x hx => Below.heap_setCell _ _ _ _ (fun e => h.ne.2.1 (by rw [hx, e]))
theorem SenderAt.next (h : SenderAt w B LB v q s) (q' : Nat) : SenderAt (w.setCell ⟨B, 6, none⟩ (nextS q')) B LB v q' s := by
  obtain ⟨o, x, p, h1, h2⟩ := h.e
  exact h.put 6 _ rfl rfl ⟨o, x, p, h1.far (Nat.le_refl _) _, h2⟩ (World.cell?_setCell_same _ _ _ h.c6) (Nat.le_refl _)
theorem SenderAt.lost (h : SenderAt w B LB v q s) : SenderAt w B LB v q { s with ph := 5 } := by
  obtain ⟨o, x, p, h1, _⟩ := h.e
  exact ⟨⟨o, x, p, h1, fun h5 => absurd h5 (by show ¬ 5 < 5; omega)⟩, h.c6, h.c7, h.c8, h.lt, h.own, h.ne, h.lb⟩
/-- Another phase. -/
theorem SenderAt.think (h : SenderAt w B LB v q s) (hp : s.ph < 5) (k : Nat) : SenderAt w B LB v q { s with ph := k } :=
  ⟨⟨_, _, _, h.end hp, fun _ => ⟨rfl, rfl, rfl⟩⟩, h.c6, h.c7, h.c8, h.lt, h.own, h.ne, h.lb⟩
theorem SenderAt.setO (h : SenderAt w B LB v q s) (hp : s.ph < 5) (x : Int) : SenderAt (w.setCell ⟨B, 3, none⟩ (.int .u32 x)) B LB v q { s with oth := x } :=
  h.put 3 _ rfl rfl ⟨_, _, _, (h.end hp).setO x, fun _ => ⟨rfl, rfl, rfl⟩⟩ (by rw [World.cell?_setCell_other _ _ _ _ (off_ne (by omega))]; exact h.c6) (by omega)
theorem SenderAt.setX (h : SenderAt w B LB v q s) (hp : s.ph < 5) (x : Int) : SenderAt (w.setCell ⟨B, 4, none⟩ (.int .u32 x)) B LB v q { s with own := x } :=
  h.put 4 _ rfl rfl ⟨_, _, _, (h.end hp).setX x, fun _ => ⟨rfl, rfl, rfl⟩⟩ (by rw [World.cell?_setCell_other _ _ _ _ (off_ne (by omega))]; exact h.c6) (by omega)
theorem SenderAt.setP (h : SenderAt w B LB v q s) (hp : s.ph < 5) (x : Nat) (y : Int) (hy : y = x) : SenderAt (w.setCell ⟨B, 5, none⟩ (.int .i64 y)) B LB v q { s with pa := x } := by
  subst hy
  exact h.put 5 _ rfl rfl ⟨_, _, _, (h.end hp).setP x, fun _ => ⟨rfl, rfl, rfl⟩⟩ (by rw [World.cell?_setCell_other _ _ _ _ (off_ne (by omega))]; exact h.c6) (by omega)
end
theorem sends_any (q : Nat) (w : World) (h : q ≤ 5) : Calls Tryd.prog 31 #[.int .i64 q] w fun e w' => e = .returned (nextS q) ∧ w = w' := by
  have hmf : ∀ (fn : Fn) (first cap : Array Value) (w : World), (Instr.makeFunc fn first cap).run Tryd.prog w = .ok (.func fn first cap) w := fun _ _ _ _ => rfl
  have h6 : q = 0 ∨ q = 1 ∨ q = 2 ∨ q = 3 ∨ q = 4 ∨ q = 5 := by omega
  rcases h6 with rfl | rfl | rfl | rfl | rfl | rfl
  all_goals
    go_enter Tryd.func31, Tryd.ntmps31
    go_wp2_with fail
    go_ret
    exact ⟨rfl, rfl⟩
section
variable (B LB g b n : Nat) (v : Value) (q : Nat) (s : Sd) (f : Nat → Int) (c : Int) (w : World)
/-- The blocks that a step may change. -/
def SS (g b B : Nat) (v : Value) (k : Nat) : Prop := k = g ∨ k = b ∨ k = B ∨ v.ownBlock = some k
set_option maxHeartbeats 1000000 in
theorem sahead_any (A : Option Addr) (k ca : Nat) (w : World) (h : w.cell? ⟨B, 7, none⟩ = some (.slice A k ca)) : Calls Tryd.prog 32 #[.pointer (some ⟨B, 0, none⟩)] w fun e w' => e = .returned (.int .i64 (if k = 0 then 5 else 0 : Nat)) ∧ w = w' := by
  by_cases hk : k = 0
  · subst hk
    go_enter Tryd.func32, Tryd.ntmps32
    go_wp2_with fail
    go_ret
    exact ⟨rfl, rfl⟩
  · rw [if_neg hk]
    go_enter Tryd.func32, Tryd.ntmps32
    go_wp2_with fail
    go_ret
    exact ⟨rfl, rfl⟩
/-- What a close leaves. -/
def CloseP (B LB : Nat) (v : Value) (q : Nat) (s : Sd) (x : Bool) (w : World) (e : Ending) (w' : World) : Prop :=
  e = .returned (.int .i64 ((s.close x).ph : Nat)) ∧ ∃ v', SenderAt w' B LB v' q (s.close x) ∧ Chg (fun k => k = B ∨ v.ownBlock = some k) w w' ∧ (v'.ownBlock = v.ownBlock ∨ ∃ k, v'.ownBlock = some k ∧ w.heap.size ≤ k)
theorem close_fin {B LB : Nat} {v : Value} {q : Nat} {s : Sd} {x : Bool} {w w2 : World} {g' cap' M : Nat} {A' : Option Addr} (hT : SenderAt w B LB v q s) (hp : s.ph < 5) (hM : M = s.L.length - s.sent.length)
    (hg2 : Grow w2 4 (.slice (some ⟨g', 0, none⟩) (s.sent.length + 1) cap') (s.sent.map Value.bool ++ [.bool x])) (hC2 : Chg (fun k => v.ownBlock = some k) w w2) (hat : v.ownBlock = some g' ∨ w.heap.size ≤ g') (hA : M ≠ 1 → A' = some ⟨LB, 9 * s.sent.length + 9, none⟩) :
    ∃ v', SenderAt ((w2.setCell ⟨B, 8, none⟩ (.slice (some ⟨g', 0, none⟩) (s.sent.length + 1) cap')).setCell ⟨B, 7, none⟩ (.slice A' (M - 1) (M - 1))) B LB v' q (s.close x) ∧
      Chg (fun k => k = B ∨ v.ownBlock = some k) w ((w2.setCell ⟨B, 8, none⟩ (.slice (some ⟨g', 0, none⟩) (s.sent.length + 1) cap')).setCell ⟨B, 7, none⟩ (.slice A' (M - 1) (M - 1))) ∧ (v'.ownBlock = v.ownBlock ∨ ∃ k, v'.ownBlock = some k ∧ w.heap.size ≤ k) := by
  have hB := hT.ltB
  have hl := hT.lb
  have hne := hT.ne
  have hgB : g' ≠ B := fun e => by
    rcases hat with h | h
    · exact hne.2.1 (by rw [h, e])
    · omega
  have hgL : g' ≠ LB := fun e => by
    rcases hat with h | h
    · exact hne.2.2 (by rw [h, e])
    · omega
  have el : (s.close x).sent.length = s.sent.length + 1 := by unfold Sd.close; simp
  have e0 := hC2.block B hB hne.2.1
  refine ⟨.slice (some ⟨g', 0, none⟩) (s.sent.length + 1) cap', ⟨⟨_, _, _, (((hT.end hp).same e0).far (by omega) _).far (by omega) _, fun _ => ⟨rfl, rfl, rfl⟩⟩, ?_, ⟨A', ?_, fun h5 => ?_⟩, ?_, fun i hi k hk => ?_, ?_, ?_, ?_⟩, ?_, ?_⟩
  · rw [World.cell?_setCell_other _ _ _ _ (off_ne (by omega)), World.cell?_setCell_other _ _ _ _ (off_ne (by omega)), World.cell?_of_block (w := w) e0]; exact hT.c6
  · obtain ⟨A, h7, _⟩ := hT.c7
    rw [el, show (s.close x).L.length - (s.sent.length + 1) = M - 1 by rw [hM]; show s.L.length - (s.sent.length + 1) = _; omega]
    have h7' : (w2.setCell ⟨B, 8, none⟩ (.slice (some ⟨g', 0, none⟩) (s.sent.length + 1) cap')).cell? ⟨B, 7, none⟩ = some (.slice A (s.L.length - s.sent.length) (s.L.length - s.sent.length)) := by rw [World.cell?_setCell_other _ _ _ _ (off_ne (by omega)), World.cell?_of_block (w := w) e0]; exact h7
    exact World.cell?_setCell_same _ _ _ h7'
  · rw [el] at h5 ⊢
    have h5 : s.sent.length + 1 < s.L.length := h5
    rw [hA (by omega), Nat.mul_add]
  · rw [World.cell?_setCell_other _ _ _ _ (off_ne (by omega))]
    have h8' : w2.cell? ⟨B, 8, none⟩ = some v := by rw [World.cell?_of_block (w := w) e0]; exact hT.c8
    exact World.cell?_setCell_same _ _ _ h8'
  · rw [World.cell?_setCell_other _ _ _ _ (blk_ne hne.1), World.cell?_setCell_other _ _ _ _ (blk_ne hne.1)]
    exact hC2.cell (hT.lt i hi k hk) hne.2.2
  · have hmap : (s.close x).sent.map Value.bool = s.sent.map Value.bool ++ [.bool x] := by
      show (s.sent ++ [x]).map Value.bool = _
      simp
    rw [hmap]
    refine hg2.same fun y hy => ?_
    injection hy with hy
    subst hy
    rw [Below.heap_setCell _ _ _ _ hgB, Below.heap_setCell _ _ _ _ hgB]
  · exact ⟨hne.1, fun e => by injection e with e; exact hgB e, fun e => by injection e with e; exact hgL e⟩
  · have := hC2.size; simp; omega
  · exact ((hC2.mono fun _ h => .inr h).set (a := ⟨B, 8, none⟩) (.inl rfl) _).set (a := ⟨B, 7, none⟩) (.inl rfl) _
  · rcases hat with h | h
    · exact .inl h.symm
    · exact .inr ⟨g', rfl, h⟩
set_option maxHeartbeats 4000000 in
set_option maxRecDepth 100000 in
theorem sclose_any (x : Bool) (hT : SenderAt w B LB v q s) (hp : s.ph < 5) (hW : s.Wf) :
    Calls Tryd.prog 65 #[.pointer (some ⟨B, 0, none⟩), .bool x] w fun e w' => CloseP B LB v q s x w e w' := by
  have hm := hW.more hp
  have hfew := hW.few
  obtain ⟨A, h7, hA⟩ := hT.c7
  obtain rfl := hA hm
  have h8 := hT.c8
  have HT := Lib.hid hT
  have HH := Lib.hid (And.intro hp (And.intro hm hfew))
  obtain ⟨M, hM⟩ : ∃ M, M = s.L.length - s.sent.length := ⟨_, rfl⟩
  rw [← hM] at h7
  have hM0 : 1 ≤ M := by omega
  have hM1 : M ≤ 1000 := by omega
  have HM := Lib.hid hM
  clear hT hp hm hfew hA hM hW
  go_enter Tryd.func65, Tryd.ntmps65
  go_wp2_with (at_builtin; refine wpList_app rfl _ _ 36 4 (.bool false) 1 rfl Tryd.underlying36 info4 rfl (by decide) (u := .bool x) HT.out.own (by rw [List.length_map]; have := HH.out; omega) rfl (by rfl) (by rfl) ?_)
  intro g' cap' w2 hg2 hC2 hat2 hlt2
  have k7 := hC2.cell h7 HT.out.ne.2.1
  have k8 := hC2.cell h8 HT.out.ne.2.1
  have z7 : w2.frozen? ⟨B, 7, none⟩ = false := (hC2.frozen (a := ⟨B, 7, none⟩) HT.out.ltB HT.out.ne.2.1).trans (HT.out.fz 7)
  have z8 : w2.frozen? ⟨B, 8, none⟩ = false := (hC2.frozen (a := ⟨B, 8, none⟩) HT.out.ltB HT.out.ne.2.1).trans (HT.out.fz 8)
  have HX := Lib.hid (And.intro hg2 (And.intro hC2 (And.intro hat2 hlt2)))
  clear hg2 hC2 hat2 hlt2 h7 h8
  have HAH := Lib.hid (fun A k ca W h => sahead_any B A k ca W h)
  have hph : ∀ K : Nat, K = (if M - 1 = 0 then 5 else 0) → K = (s.close x).ph := fun K hK => by
    rw [hK]
    show _ = if s.sent.length + 1 = s.L.length then 5 else 0
    have := HM.out
    by_cases e : s.sent.length + 1 = s.L.length
    · rw [if_pos e, if_pos (by omega)]
    · rw [if_neg e, if_neg (by omega)]
  have HPH := Lib.hid hph
  clear hph
  by_cases hM2 : M = 1
  · subst hM2
    go_wp2_with fail
    with_reducible refine (HAH.out (some ⟨LB, 9 * s.sent.length, none⟩) 0 0 _ (World.cell?_setCell_same _ _ _ (by rw [World.cell?_setCell_other _ _ _ _ (off_ne (by omega))]; exact k7))).mono ?_
    rintro e w3 ⟨rfl, rfl⟩
    go_wp2_with fail
    go_ret
    exact ⟨by rw [← HPH.out _ rfl]; rfl, close_fin HT.out HH.out.1 HM.out HX.out.1 HX.out.2.1 HX.out.2.2.1 (fun h => absurd rfl h)⟩
  · go_wp2_with fail
    with_reducible refine (HAH.out (some ⟨LB, 9 * s.sent.length + 9, none⟩) (M - 1) (M - 1) _ (World.cell?_setCell_same _ _ _ (by rw [World.cell?_setCell_other _ _ _ _ (off_ne (by omega))]; exact k7))).mono ?_
    rintro e w3 ⟨rfl, rfl⟩
    go_wp2_with fail
    go_ret
    exact ⟨by rw [← HPH.out _ rfl, if_neg (by omega)]; rfl, close_fin HT.out HH.out.1 HM.out HX.out.1 HX.out.2.1 HX.out.2.2.1 (fun _ => rfl)⟩
end
end Go.Proofs.YtnmobalgghggnaaDoor
