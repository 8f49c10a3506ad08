/-
  remove, Drop, Take.
-/
import Derived.Test.YtagfhlnedaagbaaPutW
namespace Go.Proofs.Ytagfhlnedaagbaa
open Go.RowKit

/-- 'delete(m, k)' on the line's map, at the operation. -/
theorem wpList_del {w : World} {ops : Array Oper} {rest : List Oper} {o : Oper} {a : Act} {Q : Exit → Act → World → Prop} (hg : o.guard = none) (m x : Operand)
    (hop : o.op = Op.call { callee := Callee.builtin Builtin.delete, args := #[m, x], argTypes := #[49, 3] }) {b n : Nat} {hs : Int → Bool} {lk : Int → Int × Int × Int} (hm : a.eval m = .map (some b)) (h : MapAt w b hs lk n) {z : Int} (hz : I64 z) (hx : a.eval x = nV z)
    (hK : ∀ w', MapAt w' b (fun y => !decide (y = z) && hs y) (fun y => if y = z then (0, 0, 0) else lk y) n → Chg (fun k => k = b) w w' → wpList Try.prog ops Q rest (a.put o.dst (.tuple #[])) w') :
    wpList Try.prog ops Q (o :: rest) a w := by
  refine wpList_plain hg fun K' hK' => ?_
  obtain ⟨w', hrun, r1, r2⟩ := h.del hz o.type
  unfold Oper.wp
  simp [execOp, hop, resolve, invoke, builtin, hm, hx, hrun, Result.andThen]
  exact hK' _ _ (hK w' r1 r2)
/-- A line put together again behind a store of its queue and a change of its map. -/
theorem LnAt.again {w w2 w3 : World} {g b : Nat} {v v2 : Value} {S S' : Ln} {n : Nat} (h : LnAt w g b v S) (hC : Chg (fun k => v.ownBlock = some k) w w2) (hN : Nums w2 v2 S'.nums) (hv : Slid v v2 w)
    (hC3 : Chg (fun k => k = b) (w2.setCell ⟨g, 1, none⟩ v2) w3) (hM : MapAt w3 b S'.has S'.look n) (hn : n ≤ S'.n) (e1 : S'.n = S.n) (e2 : S'.now = S.now) (ok : Ok S') : LnAt w3 g b v2 S' ∧ Chg (Blk g b v) w w3 := by
  have hgn : v.ownBlock ≠ some g := h.nv
  have hbn : v.ownBlock ≠ some b := h.nb
  have gb := h.ne
  have lg := h.ltg
  have lb := h.ltb
  have hgn2 : v2.ownBlock ≠ some g := by
    rcases hv with e | ⟨k, e, hk⟩
    · rw [e]; exact hgn
    · rw [e]; intro c; injection c with c; omega
  have hbn2 : v2.ownBlock ≠ some b := by
    rcases hv with e | ⟨k, e, hk⟩
    · rw [e]; exact hbn
    · rw [e]; intro c; injection c with c; omega
  have s1 : (w2.setCell ⟨g, 1, none⟩ v2).cell? ⟨g, 1, none⟩ = some v2 := World.cell?_setCell_same _ _ _ (hC.cell h.c1 hgn)
  have so : ∀ j u, j ≠ 1 → w2.cell? ⟨g, j, none⟩ = some u → (w2.setCell ⟨g, 1, none⟩ v2).cell? ⟨g, j, none⟩ = some u := fun j u hj hu => by
    rw [World.cell?_setCell_other _ _ _ _ (by intro e; simp only [Addr.mk.injEq] at e; omega)]; exact hu
  refine ⟨⟨hC3.cell (so 0 _ (by omega) (hC.cell h.c0 hgn)) gb, hC3.cell s1 gb, ?_, ?_, fun j => ?_, hM.congr (fun _ => rfl) (fun _ => rfl) hn, ?_, gb, hgn2, hbn2, ok⟩, ?_⟩
  · rw [e1]; exact hC3.cell (so 2 _ (by omega) (hC.cell h.c2 hgn)) gb
  · rw [e2]; exact hC3.cell (so 3 _ (by omega) (hC.cell h.c3 hgn)) gb
  · rw [hC3.frozen (a := ⟨g, j, none⟩) (by simp; have := hC.size; omega) gb, World.frozen?_setCell, hC.frozen (a := ⟨g, j, none⟩) lg hgn]
    exact h.fz j
  · refine (hN.same fun x hx => Below.heap_setCell _ _ _ _ (fun e => ?_)).chg hC3 fun x hx e => ?_
    · dsimp only at e; subst e; exact hgn2 hx
    · subst e; exact hbn2 hx
  · exact ((hC.mono (S' := Blk g b v) fun k hk => .inr (.inr hk)).set (a := ⟨g, 1, none⟩) (.inl rfl) v2).trans (hC3.mono fun k hk => .inr (.inl hk))
set_option maxHeartbeats 1000000 in
theorem remove_any {g b : Nat} {v : Value} {S : Ln} {a : Wt} (w : World) (h : LnAt w g b v S) (ha : a ∈ S.q) (hn : S.q.length ≤ 100000) :
    Calls Try.prog 27 #[.pointer (some ⟨g, 0, none⟩), nV (a.id.val : Int)] w fun e w' => e = .returned (.tuple #[]) ∧ LnP g b v (S.without a.id) w w' := by
  have hla := look_has h.ok ha
  have hp := place_any (a.id.val : Int) (id_i64 _) w h.c0 h.c1 h.map h.row (nums_i64 S) (by rw [nums_len]; exact hn) (mono_bef h.ok (fun a ha => look_has h.ok ha) hla)
  have HP := Lib.hid hp
  have hz : I64 (a.id.val : Int) := id_i64 _
  obtain ⟨x, hx⟩ : ∃ x, x = (a.id.val : Int) := ⟨_, rfl⟩
  have HX := Lib.hid hx
  have H := Lib.hid h
  rw [← hx] at HP hz ⊢
  clear hp hx hla h
  go_enter Try.func27, Try.ntmps27
  go_wp2_with fail
  refine HP.out.mono ?_
  rintro e w1 ⟨k, rfl, hF, hB⟩
  have hF' : Hid (∃ hk : k < S.q.length, S.q[k] = a) := found_own H.out.ok ha (by rw [← HX.out]; exact hF)
  have h1 := H.out.keep hB
  have HB := Lib.hid hB
  have HD := Lib.hid (delete_any v S.nums k w1 h1.row (by rw [nums_len]; exact hF'.1))
  have H1 := Lib.hid h1
  have c1 := h1.c1
  have lg := h1.ltg
  have e1 : IntKind.i64.wrap ((k : Int) + 1) = (k : Int) + 1 := by have := hF'.1; rw [IntKind.wrap_i64]; omega
  have fg := h1.fz 1
  have HF' := Lib.hid hF'
  clear h1 hF hB hF'
  go_wp2_with fail
  refine HD.out.mono ?_
  rintro e w2 ⟨v2, rfl, hN, hC, ho⟩
  obtain ⟨A2, d2, rfl, _⟩ := hN.len
  have hgn : v.ownBlock ≠ some g := H1.out.nv
  have hbn : v.ownBlock ≠ some b := H1.out.nb
  have c1 := hC.cell c1 hgn
  have c0 := hC.cell H1.out.c0 hgn
  have fg := (hC.frozen (a := ⟨g, 1, none⟩) lg hgn).trans fg
  have HN := Lib.hid hN
  have HC := Lib.hid hC
  have HO := Lib.hid ho
  have gb := H1.out.ne
  have HM := Lib.hid (H1.out.map.chg hC hbn)
  clear hN hC ho
  go_wp2_with (at_delete; refine wpList_del rfl _ _ rfl rfl (HM.out.same (by exact Below.heap_setCell _ _ _ _ (fun e => gb e.symm))) hz rfl ?_; intro w3 hM3 hC3)
  obtain ⟨hk, hka⟩ := HF'.out
  have hd := without_nums H.out.ok hk hka
  have hnn : Nums w2 (.slice A2 (delAt' S.nums k).length d2) (S.without a.id).nums := by rw [← hd]; exact HN.out
  have hs := H.out.ok
  have hfin := H1.out.again (S' := S.without a.id) (n := S.n) HC.out hnn (.inl HO.out) hC3
    (hM3.congr (fun z => by rw [has_without, ← HX.out]) (fun z => by rw [look_without hs, ← HX.out]) (Nat.le_refl _)) (Nat.le_refl _) rfl rfl (ok_without hs _)
  have HFIN := Lib.hid hfin
  clear hd hnn hfin hM3 hC3 hka hk
  go_end0
  exact ⟨rfl, _, HFIN.out.1, (Chg.of_below HB.out).trans HFIN.out.2, .inl HO.out⟩
end Go.Proofs.Ytagfhlnedaagbaa
