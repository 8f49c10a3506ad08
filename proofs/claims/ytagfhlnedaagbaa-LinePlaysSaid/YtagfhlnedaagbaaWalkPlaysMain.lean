/-
  The law of the plays.
-/
import Derived.Test.YtagfhlnedaagbaaDoesS
import Derived.Test.YtagfhlnedaagbaaOrdP
import Derived.Deep.CutBlock
import Derived.Deep.RegionHeld3
namespace Go.Proofs.Ytagfhlnedaagbaa
open Go.RowKit

/-- The code's line and the document's, in the box at pm. -/
structure PlL (H : Nat) (w0 w : World) (g b : Nat) (v : Value) (S : Ln) (pm : Nat) (vd : Value) (L : List Wt) : Prop where
  lb : LB H w0 w g b v S
  m0 : w.cell? ⟨pm, 0, none⟩ = some vd
  m1 : w.cell? ⟨pm, 1, none⟩ = some (nV S.now)
  fz : ∀ j, w.frozen? ⟨pm, j, none⟩ = false
  row : DR 0 w vd (L.map toD)
  rel : Rel S L
  far : ¬ Blk g b v pm ∧ H ≤ pm
  vf : ∀ x, vd.ownBlock = some x → ¬ Blk g b v x ∧ x ≠ pm
theorem PlL.lt {H : Nat} {w0 w : World} {g b : Nat} {v : Value} {S : Ln} {pm : Nat} {vd : Value} {L : List Wt} (h : PlL H w0 w g b v S pm vd L) : pm < w.heap.size := cell_lt h.m0
theorem PlL.keep {H : Nat} {w0 w w' : World} {g b : Nat} {v : Value} {S : Ln} {pm : Nat} {vd : Value} {L : List Wt} (h : PlL H w0 w g b v S pm vd L) (hB : Below w.heap.size w w') : PlL H w0 w' g b v S pm vd L :=
  ⟨h.lb.keep hB, kept h.m0 hB, kept h.m1 hB, fun j => (hB.frozen (p := ⟨pm, j, none⟩) h.lt).trans (h.fz j), h.row.keep hB, h.rel, h.far, h.vf⟩
/-- Behind a call, and the store of the document's answer, which came by way of a box at pz. -/
structure Mid8 (H : Nat) (w0 : World) (g b : Nat) (v : Value) (S : Ln) (pm : Nat) (vd : Value) (L : List Wt) (S' : Ln) (pz : Nat) (vd' : Value) (wx : World) : Prop where
  ex : ∃ W0 w1 v' L', PlL H w0 W0 g b v S pm vd L ∧ LnAt w1 g b v' S' ∧ Chg (Blk g b v) W0 w1 ∧ Slid v v' W0 ∧ Rel S' L' ∧ DR 0 w1 vd' (L'.map toD) ∧ (∀ x, vd'.ownBlock = some x → ¬ Blk g b v' x) ∧ Src vd vd' W0.heap.size ∧ Chg (fun k => k = pz) w1 wx ∧ ¬ Blk g b v' pz ∧ pz ≠ pm ∧ H ≤ pz ∧ ∀ x, vd'.ownBlock = some x → x ≠ pz
  z0 : wx.cell? ⟨pz, 0, none⟩ = some vd'
  z1 : wx.cell? ⟨pz, 1, none⟩ = some (nV S'.now)
theorem Mid8.pm {H : Nat} {w0 : World} {g b : Nat} {v : Value} {S : Ln} {pm : Nat} {vd : Value} {L : List Wt} {S' : Ln} {pz : Nat} {vd' : Value} {wx : World} (h : Mid8 H w0 g b v S pm vd L S' pz vd' wx) : wx.cell? ⟨pm, 0, none⟩ = some vd ∧ wx.cell? ⟨pm, 1, none⟩ = some (nV S.now) ∧ ∀ j, wx.frozen? ⟨pm, j, none⟩ = false := by
  obtain ⟨W0, w1, v', L', hP, h1, h2, h3, hR, hD, hf, hS, hC, z1, z2, z3, z4⟩ := h.ex
  have hpl := hP.lt
  have hp2 : pm < w1.heap.size := Nat.lt_of_lt_of_le hpl h2.size
  exact ⟨hC.cell (h2.cell hP.m0 hP.far.1) (fun e => z2 e.symm), hC.cell (h2.cell hP.m1 hP.far.1) (fun e => z2 e.symm), fun j => by
    rw [hC.frozen (a := ⟨pm, j, none⟩) hp2 (fun e => z2 e.symm), h2.frozen (a := ⟨pm, j, none⟩) hpl hP.far.1]
    exact hP.fz j⟩
theorem Mid8.step {H : Nat} {w0 : World} {g b : Nat} {v : Value} {S : Ln} {pm : Nat} {vd : Value} {L : List Wt} {S' : Ln} {pz : Nat} {vd' : Value} {wx W : World} (h : Mid8 H w0 g b v S pm vd L S' pz vd' wx) (hW : W = (wx.setCell ⟨pm, 0, none⟩ vd').setCell ⟨pm, 1, none⟩ (nV S'.now)) : ∃ v' L', PlL H w0 W g b v' S' pm vd' L' := by
  obtain ⟨m0, m1, mf⟩ := h.pm
  obtain ⟨W0, w1, v', L', hP, h1, h2, h3, hR, hD, hf, hS, hC, z1, z2, z3, z4⟩ := h.ex
  have hpl := hP.lt
  have hp1 : ¬ Blk g b v' pm := fun hk => by
    rcases hk with k | k | k
    · exact hP.far.1 (.inl k)
    · exact hP.far.1 (.inr (.inl k))
    · rcases h3 with h3 | ⟨z, e1, e2⟩
      · exact hP.far.1 (.inr (.inr (by rw [← h3]; exact k)))
      · rw [e1] at k; injection k with k; omega
  obtain ⟨t0, t1, hcg⟩ := twoSet m0 m1 hW
  have hne : ∀ x, vd'.ownBlock = some x → x ≠ pm := fun x e e' => by
    rcases hS x e with k | k
    · exact (hP.vf x k).2 e'
    · omega
  have hblk : ∀ k, Blk g b v' k → H ≤ k := fun k hk => by
    rcases hk with e | e | e
    · exact hP.lb.blk k (.inl e)
    · exact hP.lb.blk k (.inr (.inl e))
    · rcases h3 with h3 | ⟨x, e1, e2⟩
      · exact hP.lb.blk k (.inr (.inr (by rw [← h3]; exact e)))
      · rw [e1] at e; injection e with e; have := hP.lb.sz; omega
  have hsz1 : H ≤ w1.heap.size := Nat.le_trans hP.lb.sz h2.size
  have hszx : H ≤ wx.heap.size := Nat.le_trans hsz1 hC.size
  have hb1 : Below H w0 w1 := hP.lb.bel.trans (h2.below hP.lb.blk hP.lb.sz)
  have hbx : Below H w0 wx := hb1.trans (hC.below (fun k e => e ▸ z3) hsz1)
  have hlx : LnAt wx g b v' S' := h1.chg hC fun k hk e => z1 (e ▸ hk)
  have hDx : DR 0 wx vd' (L'.map toD) := hD.same fun x e => hC.block x (hD.lt e) (z4 x e)
  refine ⟨v', L', ⟨hlx.chg hcg fun k hk e => hp1 (e ▸ hk), hblk, hbx.trans (hcg.below (fun k hk => by have := hP.far.2; omega) hszx), Nat.le_trans hszx hcg.size⟩, t0, t1, fun j => ?_, hDx.same fun x e => hcg.block x (hDx.lt e) (hne x e), hR, ⟨hp1, hP.far.2⟩, fun x e => ⟨hf x e, hne x e⟩⟩
  rw [hW, World.frozen?_setCell, World.frozen?_setCell]
  exact mf j
section
variable {H : Nat} {w0 wr W0 w1 W : World} {g b : Nat} {v v' : Value} {S S' : Ln} {pm : Nat} {vd vd' : Value} {L L' : List Wt}
theorem mid_late (hP : PlL H w0 wr g b v S pm vd L) (hB : Below wr.heap.size wr W0) (h : LnAt w1 g b v' S' ∧ Chg (Blk g b v) W0 w1 ∧ Slid v v' W0 ∧ Rel S' L' ∧ DR 0 w1 vd' (L'.map toD) ∧ (∀ x, vd'.ownBlock = some x → ¬ Blk g b v' x) ∧ Src vd vd' W0.heap.size) :
    Mid8 H w0 g b v S pm vd L S' w1.heap.size vd' (w1.alloc (.cells #[vd', nV S'.now] 27)) := by
  obtain ⟨h1, h2, h3, hR, hD, hf, hS⟩ := h
  have s1 := hB.size
  have s2 := h2.size
  have s3 := hP.lb.sz
  have s4 := hP.lt
  exact ⟨⟨W0, w1, v', L', hP.keep hB, h1, h2, h3, hR, hD, hf, hS, Chg.of_below ((Below.refl _ _).alloc (Nat.le_refl _) _), fun hk => Nat.lt_irrefl _ (h1.blk_lt hk), by omega, by omega, fun x e => by have := hD.lt e; omega⟩, al_new _ _ _ 0 _ rfl rfl, al_new _ _ _ 1 _ rfl rfl⟩
theorem mid_early {o : Obj} {x0 x1 : Value} (hP : PlL H w0 wr g b v S pm vd L) (h : LnAt w1 g b v' S' ∧ Chg (Blk g b v) (wr.alloc o).drew w1 ∧ Slid v v' (wr.alloc o).drew ∧ Rel S' L' ∧ DR 0 w1 vd' (L'.map toD) ∧ (∀ x, vd'.ownBlock = some x → ¬ Blk g b v' x) ∧ Src vd vd' (wr.alloc o).drew.heap.size)
    (c0 : w1.cell? ⟨wr.heap.size, 0, none⟩ = some x0) (c1 : w1.cell? ⟨wr.heap.size, 1, none⟩ = some x1) (hW : W = (w1.setCell ⟨wr.heap.size, 0, none⟩ vd').setCell ⟨wr.heap.size, 1, none⟩ (nV S'.now)) :
    Mid8 H w0 g b v S pm vd L S' wr.heap.size vd' W := by
  obtain ⟨h1, h2, h3, hR, hD, hf, hS⟩ := h
  have hz : (wr.alloc o).drew.heap.size = wr.heap.size + 1 := by show (wr.alloc o).heap.size = _; simp
  have s3 := hP.lb.sz
  have s4 := hP.lt
  obtain ⟨t0, t1, hcg⟩ := twoSet c0 c1 hW
  refine ⟨⟨_, w1, v', L', hP.keep (((Below.refl wr.heap.size wr).alloc (Nat.le_refl _) o).drew), h1, h2, h3, hR, hD, hf, hS, hcg, fun hk => ?_, by omega, s3, fun x e e' => ?_⟩, t0, t1⟩
  · rcases hk with k | k | k
    · have := hP.lb.ln.ltg; omega
    · have := hP.lb.ln.ltb; omega
    · rcases h3 with h3 | ⟨z, e1, e2⟩
      · rw [h3] at k; have := hP.lb.ln.row.lt k; omega
      · rw [e1] at k; injection k with k; omega
  · rcases hS x e with k | k
    · have := hP.row.lt k; omega
    · omega
end
def LpK (H : Nat) (w0 w : World) (pm g k : Nat) : Prop := ∃ b v S vd L, PlL H w0 w g b v S pm vd L ∧ S.q.length ≤ k ∧ S.n ≤ k
structure Hd_ (P : Prop) : Prop where
  out : P
structure Cut_WalkPlays (M : Prop) where
  R : Prop
  imp : Hd_ R → M
set_option linter.all false in
set_option maxHeartbeats 8000000 in
set_option maxRecDepth 100000 in
def part_WalkPlays : Cut_WalkPlays (∀ (A : Option Addr) (c : Nat) (cs : List CallA) (w : World) (hwf : ∀ y ∈ cs, WfCall y) (hA : CallsAt w A cs) (hCl0 : cs.length ≤ 140737488355328),
    Calls Try.prog 3 #[.slice A cs.length c] w fun e w' => e = .returned (.bool true) ∧ Below w.heap.size w w') := ⟨_, fun HYPR => by
  intro A c cs w hwf hA hCl0
  have haw := Lib.hid (fun W => awake_any W)
  have hnew := Lib.hid (new_any w)
  have HCS := Lib.hid hA
  have HWF := Lib.hid hwf
  clear hA hwf
  go_enter Try.func3, Try.ntmps3
  go_wp2_with fail
  with_reducible refine hnew.out.mono ?_
  rintro e w1 ⟨rfl, hL, hB⟩
  have L0 := Lib.hid (LB.new hL (by omega) (Nat.le_refl _) hB)
  obtain ⟨g, hg⟩ : ∃ g, g = w.heap.size + 1 := ⟨_, rfl⟩
  obtain ⟨pm, hpm⟩ : ∃ pm, pm = w1.heap.size := ⟨_, rfl⟩
  rw [← hg] at L0 ⊢
  have hPl : PlL w.heap.size w (w1.alloc (.cells #[.slice none 0 0, nV 0] 27)) g w.heap.size (.slice none 0 0) Ln.new pm (.slice none 0 0) [] :=
    ⟨L0.out.keep ((Below.refl _ _).alloc (Nat.le_refl _) _), al_new _ _ _ 0 _ hpm rfl, al_new _ _ _ 1 _ hpm rfl, fun j => frozen_at _ _ _ _ _ hpm, DR.nil 0 _, Rel.new, ⟨fun hk => by have := L0.out.ln.blk_lt hk; omega, by have := L0.out.sz; omega⟩, fun x e => by cases e⟩
  have HP0 := Lib.hid hPl
  clear L0 hPl hL hB hg hnew
  go_wp2_with fail
  rw [← hpm]
  clear hpm
  with_reducible refine (haw.out _).mono ?_
  rintro e w3 ⟨rfl, hB3⟩
  have HK0 : Hid (LpK w.heap.size w w3 pm g 0) := ⟨_, _, _, _, _, HP0.out.keep hB3, Nat.le_refl _, Nat.le_refl _⟩
  clear HP0 hB3 haw
  go_wp2_with fail
  go_loopw [5] (fun kv wr => ∃ k : Nat, kv = .int .i64 k ∧ k ≤ 60 ∧ Hid (LpK w.heap.size w wr pm g k)) (fun kv _ => 61 - (intOf kv).toNat)
  case atStart => exact ⟨0, rfl, Nat.zero_le _, HK0⟩
  case round =>
    obtain ⟨k, rfl, hk60, HK⟩ := hrel
    clear HK0
    by_cases hlt : k < cs.length ∧ k < 60
    · obtain ⟨hl1, hl2⟩ := hlt
      obtain ⟨bb, oo, rfl, hcc⟩ : ∃ bb oo, A = some ⟨bb, oo, none⟩ ∧ ∀ W, Below w.heap.size w W → ∀ j u, (xC (cs.getD k dX))[j]? = some u → W.cell? ⟨bb, oo + k * 4 + j, none⟩ = some u := by
        obtain ⟨bb, oo, e⟩ := Arr.head HCS.out hl1
        subst e
        exact ⟨bb, oo, rfl, fun W hW j u hu => Arr.at (Arr.keep HCS.out hW) hl1 hu⟩
      obtain ⟨⟨y0, y1, y2, y3⟩, hy⟩ : ∃ y, y = cs.getD k dX := ⟨_, rfl⟩
      rw [← hy] at hcc
      have hwfy : WfCall (y0, y1, y2, y3) := by
        rw [hy, List.getD_eq_getElem?_getD, List.getElem?_eq_getElem hl1]
        exact HWF.out _ (List.getElem_mem hl1)
      have hb0 : Below w.heap.size w wr := by obtain ⟨_, _, _, _, _, hPL, _⟩ := HK.out; exact hPL.lb.bel
      have c0 : wr.cell? ⟨bb, oo + k * 4, none⟩ = some (nV y0) := hcc wr hb0 0 _ rfl
      have c1 := hcc wr hb0 1 _ rfl
      have c2 := hcc wr hb0 2 _ rfl
      have c3 := hcc wr hb0 3 _ rfl
      dsimp only at c0 c1 c2 c3
      have i0 : (0 : Int) ≤ (k : Int) := Int.natCast_nonneg _
      have i1 : (k : Int) < (cs.length : Int) := by omega
      have i2 : (k : Int) < 60 := by omega
      have HW := Lib.hid hwfy
      clear hcc hy hwfy hb0
      obtain ⟨b, v, S, vd, L, hPL, hq, hN⟩ := HK.out
      obtain ⟨dA, dc, rfl, _⟩ := hPL.row.len
      obtain ⟨nd, hnd⟩ : ∃ nd, nd = (L.map toD).length := ⟨_, rfl⟩
      rw [← hnd] at hPL
      have HPL := Lib.hid hPL
      have HCW := Lib.hid (show ∀ W, Below wr.heap.size wr W → W.cell? ⟨bb, oo + k * 4, none⟩ = some (nV y0) ∧ W.cell? ⟨bb, oo + k * 4 + 1, none⟩ = some (nV y1) ∧ W.cell? ⟨bb, oo + k * 4 + 2, none⟩ = some (nV y2) ∧ W.cell? ⟨bb, oo + k * 4 + 3, none⟩ = some (nV y3) from fun W hB => ⟨kept c0 hB, kept c1 hB, kept c2 hB, kept c3 hB⟩)
      have HMW := Lib.hid (show ∀ W, Below wr.heap.size wr W → W.cell? ⟨pm, 0, none⟩ = some (.slice dA nd dc) ∧ W.cell? ⟨pm, 1, none⟩ = some (nV S.now) from fun W hB => ⟨kept hPL.m0 hB, kept hPL.m1 hB⟩)
      have HC := Lib.hid (fun W (hB : Below wr.heap.size wr W) => does_rel (y0, y1, y2, y3) HW.out W (hPL.lb.ln.keep hB) (hPL.row.keep hB) (fun x e => (hPL.vf x e).1) hPL.rel (by omega) (by omega))
      have HQ := Lib.hid (And.intro hnd (And.intro hq hN))
      clear c0 c1 c2 c3 hPL hq hN hnd HK
      have hB1 : Below wr.heap.size wr wr.drew := below_dn wr 1
      have hB2 : ∀ o, Below wr.heap.size wr (wr.drew.alloc o) := fun o => hB1.trans ((Below.refl wr.heap.size wr.drew).alloc (Nat.le_refl _) o)
      have hB3 : ∀ o, Below wr.heap.size wr (wr.alloc o).drew := fun o => ((Below.refl wr.heap.size wr).alloc (Nat.le_refl _) o).drew
      obtain ⟨p0, p1, p2, p3⟩ := HCW.out _ hB1
      obtain ⟨p4, p5⟩ := HMW.out _ hB1
      have r0 := fun o => (HCW.out _ (hB2 o)).1
      have r1 := fun o => (HCW.out _ (hB2 o)).2.1
      have r2 := fun o => (HCW.out _ (hB2 o)).2.2.1
      have r3 := fun o => (HCW.out _ (hB2 o)).2.2.2
      have r4 := fun o => (HMW.out _ (hB2 o)).1
      have r5 := fun o => (HMW.out _ (hB2 o)).2
      have s0 := fun o => (HCW.out _ (hB3 o)).1
      have s1 := fun o => (HCW.out _ (hB3 o)).2.1
      have s2 := fun o => (HCW.out _ (hB3 o)).2.2.1
      have s3 := fun o => (HCW.out _ (hB3 o)).2.2.2
      have s4 := fun o => (HMW.out _ (hB3 o)).1
      have s5 := fun o => (HMW.out _ (hB3 o)).2
      go_upto_region 8 with fail
      go_cut [6, 7] (fun zv bv wx => ∃ pz vA vn vc, zv = .pointer (some ⟨pz, 0, none⟩) ∧ bv = .bool true ∧ Hid (Mid8 w.heap.size w g b v S pm (.slice dA nd dc) L (S.act (y0, y1, y2, y3)) pz (.slice vA vn vc) wx))
      case first =>
        have HLT := Lib.hid (fun k (hk : Blk g b v k) => HPL.out.lb.ln.blk_lt hk)
        go_region_law ((first
          | (go_simp; (with_reducible refine (HC.out _ hB1).mono ?_); (rintro e w1 ⟨vd', L', v', rfl, h1, h2, h3, hR, hD, hf, hS⟩); (obtain ⟨vA, vc, rfl, _⟩ := hD.len); (obtain ⟨vn, hvn⟩ : ∃ vn, vn = (L'.map toD).length := ⟨_, rfl⟩); (rw [← hvn] at hD hf hS ⊢); (have HD := Lib.hid (And.intro h1 (And.intro h2 (And.intro h3 (And.intro hR (And.intro hD (And.intro hf hS))))))); (clear h1 h2 h3 hR hD hf hS hvn))
          | (go_simp; (with_reducible refine (HC.out _ (hB3 _)).mono ?_); (rintro e w1 ⟨vd', L', v', rfl, h1, h2, h3, hR, hD, hf, hS⟩); (obtain ⟨vA, vc, rfl, _⟩ := hD.len); (obtain ⟨vn, hvn⟩ : ∃ vn, vn = (L'.map toD).length := ⟨_, rfl⟩); (rw [← hvn] at hD hf hS ⊢); (have hnb : ¬ Blk g b v wr.heap.size := fun hk => Nat.lt_irrefl _ (HLT.out _ hk)); (have y0' := h2.cell (a := ⟨wr.heap.size, 0, none⟩) (show (wr.alloc (.cells #[.slice none 0 0, .int .i64 0] 27)).drew.cell? ⟨wr.heap.size, 0, none⟩ = some (.slice none 0 0) from al_new _ _ _ 0 _ rfl rfl) hnb); (have y1' := h2.cell (a := ⟨wr.heap.size, 1, none⟩) (show (wr.alloc (.cells #[.slice none 0 0, .int .i64 0] 27)).drew.cell? ⟨wr.heap.size, 1, none⟩ = some (.int .i64 0) from al_new _ _ _ 1 _ rfl rfl) hnb); (have y2' : ∀ j, w1.frozen? ⟨wr.heap.size, j, none⟩ = false := fun j => (h2.frozen (a := ⟨wr.heap.size, j, none⟩) (show wr.heap.size < (wr.alloc (.cells #[.slice none 0 0, .int .i64 0] 27)).heap.size from by simp) hnb).trans (show (wr.alloc (.cells #[.slice none 0 0, .int .i64 0] 27)).drew.frozen? ⟨wr.heap.size, j, none⟩ = false from frozen_at _ _ _ _ _ rfl)); (have HD := Lib.hid (And.intro h1 (And.intro h2 (And.intro h3 (And.intro hR (And.intro hD (And.intro hf hS))))))); (clear h1 h2 h3 hR hD hf hS hvn))))
        all_goals first
          | (have hM := Lib.hid (mid_early HPL.out HD.out y0' y1' rfl)
             clear HD y0' y1' y2' hnb
             go_wp2_with fail
             go_meet
             exact ⟨_, vA, vn, vc, rfl, rfl, hM⟩)
          | (have hM := Lib.hid (mid_late HPL.out hB1 HD.out)
             clear HD
             go_wp2_with fail
             go_meet
             exact ⟨_, vA, vn, vc, rfl, rfl, hM⟩)
      case rest =>
        clear p0 p1 p2 p3 p4 p5 r0 r1 r2 r3 r4 r5 s0 s1 s2 s3 s4 s5 hB1 hB2 hB3 HC HCW HMW
        repeat (rename_i zz; revert zz)
        try revert A
        try revert AllReadyH
        try revert And
        try revert Arr
        try revert Below
        try revert Blk
        try revert DR
        try revert G
        try revert HBB
        try revert HC
        try revert HCS
        try revert HCW
        try revert HCZ
        try revert HD
        try revert HF
        try revert HG
        try revert HK
        try revert HK0
        try revert HL
        try revert HLT
        try revert HM
        try revert HM1
        try revert HMW
        try revert HNN
        try revert HNW
        try revert HOLE
        try revert HP0
        try revert HPL
        try revert HPX
        try revert HQ
        try revert HQ1
        try revert HR
        try revert HRN
        try revert HW
        try revert HWF
        try revert HX
        try revert Hid
        try revert Int
        try revert K
        try revert L
        try revert L'
        try revert L0
        try revert LB
        try revert Lib
        try revert List
        try revert Ln
        try revert LpK
        try revert Mid8
        try revert Nat
        try revert Or
        try revert PlL
        try revert R
        try revert Rel
        try revert S
        try revert S'
        try revert Try
        try revert W
        try revert W0
        try revert WfCall
        try revert _eq_getElem
        try revert _getD
        try revert a
        try revert act_len
        try revert al_new
        try revert any_len
        try revert any_not
        try revert atStart
        try revert awake_any
        try revert b
        try revert bb
        try revert below_dn
        try revert below_two
        try revert bv
        try revert by_cases
        try revert c
        try revert c0
        try revert c1
        try revert c2
        try revert c3
        try revert cons
        try revert cs
        try revert dA
        try revert dX
        try revert dc
        try revert decide_eq_true
        try revert does_rel
        try revert done
        try revert e
        try revert ef
        try revert en
        try revert f
        try revert fail
        try revert first_any
        try revert frozen_at
        try revert g
        try revert h
        try revert h1
        try revert h2
        try revert h3
        try revert hA
        try revert hB
        try revert hB05
        try revert hB07
        try revert hB1
        try revert hB10
        try revert hB2
        try revert hB3
        try revert hB4
        try revert hB5
        try revert hB7
        try revert hBB
        try revert hCl0
        try revert hD
        try revert hG
        try revert hGl
        try revert hHeld
        try revert hK
        try revert hL
        try revert hLl
        try revert hM
        try revert hN
        try revert hN5
        try revert hPF
        try revert hPL
        try revert hPl
        try revert hR
        try revert hRN
        try revert hS
        try revert hS'
        try revert hSw
        try revert hW
        try revert ha
        try revert haw
        try revert hb0
        try revert hcc
        try revert hcut
        try revert he
        try revert hex
        try revert hf
        try revert hfst
        try revert hg
        try revert hids
        try revert hk
        try revert hk60
        try revert hl1
        try revert hl2
        try revert hlen
        try revert hlt
        try revert hn
        try revert hn0
        try revert hnb
        try revert hnd
        try revert hnew
        try revert hnw
        try revert hpm
        try revert hq
        try revert hq1
        try revert hrA
        try revert hrel
        try revert hsm
        try revert hu
        try revert hvn
        try revert hw4
        try revert hw9
        try revert hwf
        try revert hwfy
        try revert hy
        try revert i
        try revert i0
        try revert i1
        try revert i2
        try revert i5
        try revert intOf
        try revert j
        try revert k
        try revert kept
        try revert kernel_rfl
        try revert kk
        try revert kv
        try revert lA
        try revert lc
        try revert list_any
        try revert listd_any
        try revert m0
        try revert m1
        try revert measure
        try revert mf
        try revert mid_early
        try revert mid_late
        try revert n
        try revert nV
        try revert nd
        try revert new_any
        try revert nil
        try revert none
        try revert now_any
        try revert nq
        try revert nums_len
        try revert nw
        try revert o
        try revert oo
        try revert p0
        try revert p1
        try revert p2
        try revert p3
        try revert p4
        try revert p5
        try revert pm
        try revert pz
        try revert r
        try revert r0
        try revert r1
        try revert r2
        try revert r3
        try revert r4
        try revert r5
        try revert rA
        try revert rb
        try revert rc
        try revert rel
        try revert rotate_left
        try revert round
        try revert rs
        try revert s0
        try revert s1
        try revert s2
        try revert s3
        try revert s4
        try revert s5
        try revert same_any
        try revert some
        try revert toD
        try revert u
        try revert u0
        try revert u1
        try revert u10
        try revert u100
        try revert u101
        try revert u102
        try revert u103
        try revert u104
        try revert u105
        try revert u106
        try revert u107
        try revert u108
        try revert u109
        try revert u11
        try revert u110
        try revert u111
        try revert u112
        try revert u113
        try revert u114
        try revert u115
        try revert u116
        try revert u117
        try revert u118
        try revert u119
        try revert u12
        try revert u120
        try revert u121
        try revert u122
        try revert u123
        try revert u124
        try revert u125
        try revert u126
        try revert u127
        try revert u128
        try revert u129
        try revert u13
        try revert u130
        try revert u131
        try revert u132
        try revert u133
        try revert u134
        try revert u135
        try revert u136
        try revert u137
        try revert u138
        try revert u139
        try revert u14
        try revert u140
        try revert u141
        try revert u142
        try revert u143
        try revert u144
        try revert u145
        try revert u146
        try revert u147
        try revert u148
        try revert u149
        try revert u15
        try revert u150
        try revert u151
        try revert u152
        try revert u153
        try revert u154
        try revert u155
        try revert u156
        try revert u157
        try revert u158
        try revert u159
        try revert u16
        try revert u160
        try revert u161
        try revert u162
        try revert u163
        try revert u164
        try revert u165
        try revert u166
        try revert u167
        try revert u168
        try revert u169
        try revert u17
        try revert u170
        try revert u171
        try revert u172
        try revert u173
        try revert u174
        try revert u175
        try revert u176
        try revert u177
        try revert u178
        try revert u179
        try revert u18
        try revert u180
        try revert u181
        try revert u182
        try revert u183
        try revert u184
        try revert u185
        try revert u186
        try revert u187
        try revert u188
        try revert u189
        try revert u19
        try revert u190
        try revert u191
        try revert u192
        try revert u193
        try revert u194
        try revert u195
        try revert u196
        try revert u197
        try revert u198
        try revert u199
        try revert u2
        try revert u20
        try revert u200
        try revert u201
        try revert u202
        try revert u203
        try revert u204
        try revert u205
        try revert u206
        try revert u207
        try revert u208
        try revert u209
        try revert u21
        try revert u210
        try revert u211
        try revert u212
        try revert u213
        try revert u214
        try revert u215
        try revert u216
        try revert u217
        try revert u218
        try revert u219
        try revert u22
        try revert u220
        try revert u221
        try revert u222
        try revert u223
        try revert u224
        try revert u225
        try revert u226
        try revert u227
        try revert u228
        try revert u229
        try revert u23
        try revert u230
        try revert u231
        try revert u232
        try revert u233
        try revert u234
        try revert u235
        try revert u236
        try revert u237
        try revert u238
        try revert u239
        try revert u24
        try revert u240
        try revert u241
        try revert u242
        try revert u243
        try revert u244
        try revert u245
        try revert u246
        try revert u247
        try revert u248
        try revert u249
        try revert u25
        try revert u250
        try revert u251
        try revert u252
        try revert u253
        try revert u254
        try revert u255
        try revert u256
        try revert u257
        try revert u258
        try revert u259
        try revert u26
        try revert u260
        try revert u261
        try revert u262
        try revert u263
        try revert u264
        try revert u265
        try revert u266
        try revert u267
        try revert u268
        try revert u269
        try revert u27
        try revert u270
        try revert u271
        try revert u272
        try revert u273
        try revert u274
        try revert u275
        try revert u276
        try revert u277
        try revert u278
        try revert u279
        try revert u28
        try revert u280
        try revert u281
        try revert u282
        try revert u283
        try revert u284
        try revert u285
        try revert u286
        try revert u287
        try revert u288
        try revert u289
        try revert u29
        try revert u290
        try revert u291
        try revert u292
        try revert u293
        try revert u294
        try revert u295
        try revert u296
        try revert u297
        try revert u298
        try revert u299
        try revert u3
        try revert u30
        try revert u31
        try revert u32
        try revert u33
        try revert u34
        try revert u35
        try revert u36
        try revert u37
        try revert u38
        try revert u39
        try revert u4
        try revert u40
        try revert u41
        try revert u42
        try revert u43
        try revert u44
        try revert u45
        try revert u46
        try revert u47
        try revert u48
        try revert u49
        try revert u5
        try revert u50
        try revert u51
        try revert u52
        try revert u53
        try revert u54
        try revert u55
        try revert u56
        try revert u57
        try revert u58
        try revert u59
        try revert u6
        try revert u60
        try revert u61
        try revert u62
        try revert u63
        try revert u64
        try revert u65
        try revert u66
        try revert u67
        try revert u68
        try revert u69
        try revert u7
        try revert u70
        try revert u71
        try revert u72
        try revert u73
        try revert u74
        try revert u75
        try revert u76
        try revert u77
        try revert u78
        try revert u79
        try revert u8
        try revert u80
        try revert u81
        try revert u82
        try revert u83
        try revert u84
        try revert u85
        try revert u86
        try revert u87
        try revert u88
        try revert u89
        try revert u9
        try revert u90
        try revert u91
        try revert u92
        try revert u93
        try revert u94
        try revert u95
        try revert u96
        try revert u97
        try revert u98
        try revert u99
        try revert undef
        try revert v
        try revert v'
        try revert vA
        try revert vc
        try revert vd
        try revert vd'
        try revert vl
        try revert vn
        try revert vr
        try revert w
        try revert w1
        try revert w10
        try revert w11
        try revert w3
        try revert w4
        try revert w5
        try revert w7
        try revert w9
        try revert wc
        try revert wpAnyH_done
        try revert wpAnyH_ready
        try revert wpAnyH_take
        try revert wp_region_held_drew
        try revert wq
        try revert wr
        try revert wx
        try revert x
        try revert xC
        try revert y
        try revert y0
        try revert y0'
        try revert y1
        try revert y1'
        try revert y2
        try revert y2'
        try revert y3
        try revert z0
        try revert z1
        try revert zv
        repeat (rename_i zz; revert zz)
        exact HYPR.out
    · have HX : Hid (∃ k, LpK w.heap.size w wr pm g k) := ⟨_, HK.out⟩
      have hex : k < 60 → ¬ (k : Int) < (cs.length : Int) := fun h => by omega
      clear hlt
      go_wp2_with fail
      all_goals (obtain ⟨_, _, _, _, _, _, hPL, _⟩ := HX.out)
      all_goals have HBB := Lib.hid hPL.lb.bel
      all_goals clear hPL
      all_goals go_wp2_with fail
      all_goals go_ret
      all_goals exact ⟨rfl, HBB.out⟩⟩
end Go.Proofs.Ytagfhlnedaagbaa
