/-
  The document's comparison of words.
-/
import Derived.Test.YtnmobalgghggnaaDoorQRef
import Derived.Test.YtnmobalgghggnaaDoorQSim
import Derived.Test.YtnmobalgghggnaaDoorMakes
namespace Go.Proofs.YtnmobalgghggnaaDoor
open Go.RowKit

set_option maxHeartbeats 2000000 in
theorem words_same (A1 A2 : Option Addr) (n c1 c2 : Nat) (f : Nat → Int) (w : World) (h1 : Ws w A1 n f) (h2 : Ws w A2 n f) (hb : n ≤ 100000) :
    Calls Tryd.prog 21 #[.slice A1 n c1, .slice A2 n c2] w fun e w' => e = .returned (.bool true) ∧ ∃ m, w' = w.drewN m := by
  have H1 := Lib.hid h1
  have H2 := Lib.hid h2
  clear h1 h2
  go_enter Tryd.func21, Tryd.ntmps21
  go_wp2_with fail
  go_loopw [5] (fun i wr => (∃ k : Nat, k ≤ n ∧ i = .int .i64 k) ∧ Qt w wr) (fun i _ => n - (intOf i).toNat)
  case atStart => exact ⟨⟨0, Nat.zero_le _, rfl⟩, Qt.refl _⟩
  case round =>
    obtain ⟨⟨k, hk, rfl⟩, hq⟩ := hrel
    have HQ := Lib.hid hq
    by_cases hlt : k < n
    · obtain ⟨b1, o1, rfl⟩ := H1.out.head hlt
      obtain ⟨b2, o2, rfl⟩ := H2.out.head hlt
      have e1 := (H1.out.keep hq.below).cell hlt
      have e2 := (H2.out.keep hq.below).cell hlt
      have hkn : (k : Int) < n := by omega
      generalize f k = x at *
      clear hq
      all_goals
        go_wp2_with fail
        go_quiet (fail)
        have HQ2 := Lib.hid (show Qt w (wr.drewN nq) from by obtain ⟨m, hm⟩ := HQ.out; exact ⟨m + nq, by rw [hm, World.drewN_drewN]⟩)
        go_wp2_with fail
        go_roundw
        case rel => exact ⟨⟨k + 1, by omega, by go_num⟩, HQ2.out⟩
        case measure => simp [intOf]; omega
    · obtain rfl : k = n := by omega
      clear hq
      go_wp2_with fail
      go_ret
      exact ⟨rfl, HQ.out⟩
end Go.Proofs.YtnmobalgghggnaaDoor
/-
  The code's sender and receiver, and the document's two Sides, in one world.
-/
namespace Go.Proofs.YtnmobalgghggnaaDoor
open Go.RowKit

/-- A list lies apart from the system and the boxes. -/
def Away (w : World) (own : Nat → Prop) (Ba Bb : Nat) (v : Value) : Prop := ∀ x, v.ownBlock = some x → x < w.heap.size ∧ ¬ own x ∧ x ≠ Ba ∧ x ≠ Bb
/-- A box was written anew. -/
structure Boxed (w w' : World) (H : Nat) (D : DS) : Prop where
  chg : Chg (fun k => k = H) w w'
  b : BoxC w' H D.C
  fz : ∀ j, w'.frozen? ⟨H, j, none⟩ = false
theorem SdSim.chg {S0 : Nat → Prop} {w w' : World} {s : Sd} {D : DS} (h : SdSim w s D) (hC : Chg S0 w w') (ha : 0 < s.L.length → ∀ x, D.vm.ownBlock = some x → ¬ S0 x) (hb : ∀ x, D.v10.ownBlock = some x → ¬ S0 x) : SdSim w' s D := by
  obtain ⟨ti, A1, c1, did, hd, tl, ln, tx, A10, c10, A11, n11, c11, ov, rfl, hI⟩ := h
  refine ⟨ti, A1, c1, did, hd, tl, ln, tx, A10, c10, A11, n11, c11, ov, rfl, fun i hi => ?_, fun j u hu => ?_, hI.nil, hI.bh, hI.bt, hI.h, hI.t, hI.d, hI.o⟩
  · obtain ⟨b, o, rfl, hl, hc⟩ := hI.S i hi
    exact ⟨b, o, rfl, Nat.lt_of_lt_of_le hl hC.size, hC.cell hc (ha (by omega) b rfl)⟩
  · obtain ⟨b, o, rfl, hc⟩ := hI.V j u hu
    exact ⟨b, o, rfl, hC.cell hc (hb b rfl)⟩
theorem RvSim.chg {S0 : Nat → Prop} {w w' : World} {r : Rv} {D : DS} (h : RvSim w r D) (hC : Chg S0 w w') (hb : ∀ x, D.v11.ownBlock = some x → ¬ S0 x) : RvSim w' r D := by
  obtain ⟨did, hd, tl, l, tx, A11, c11, ov, rfl, hI⟩ := h
  refine ⟨did, hd, tl, l, tx, A11, c11, ov, rfl, fun j u hu => ?_, hI.nil, hI.bh, hI.bt, hI.h, hI.t, hI.d, hI.o, hI.l32, hI.ln, hI.x2, hI.x3⟩
  obtain ⟨b, o, rfl, hc⟩ := hI.V j u hu
  exact ⟨b, o, rfl, hC.cell hc (hb b rfl)⟩
theorem Ws.chgU {S0 : Nat → Prop} {w w' : World} {U : Option Addr} {n : Nat} {f : Nat → Int} (h : Ws w U n f) (hC : Chg S0 w w') (hb : ∀ x o, U = some ⟨x, o, none⟩ → ¬ S0 x) : Ws w' U n f := fun i hi => by
  obtain ⟨b, o, rfl, hc⟩ := h i hi
  exact ⟨b, o, rfl, hC.cell hc (hb b o rfl)⟩
theorem BoxC.chg {S0 : Nat → Prop} {w w' : World} {b : Nat} {C : List Value} (h : BoxC w b C) (hC : Chg S0 w w') (hb : ¬ S0 b) : BoxC w' b C := fun j u hu => hC.cell (h j u hu) hb
theorem Sd.step_L (n : Nat) (f : Nat → Int) (s : Sd) : (s.step n f).L = s.L := by
  unfold Sd.step
  split
  · rfl
  · split
    · unfold Sd.go
      split
      · rfl
      · split <;> rfl
      · rfl
      · split <;> rfl
      · rfl
      · rfl
    · rfl
structure Px (w0 w : World) (n g B C : Nat) (S : Sd) (R : Rv) (f : Nat → Int) (S2 : Sd) (R2 : Rv) (f2 : Nat → Int) (K : Int) (Ba Bb : Nat) (DA DB : DS) (U : Option Addr) (m : Blk) (c : Int) : Prop where
  sys : SysAt w n m S R f c
  ck : c ≤ K
  g : m.g = g
  B : m.B = B
  C : m.C = C
  bel : Below w0.heap.size w0 w
  lo : ∀ k, m.own k → w0.heap.size ≤ k
  ab : w0.heap.size ≤ Ba ∧ w0.heap.size ≤ Bb ∧ Ba ≠ Bb ∧ ¬ m.own Ba ∧ ¬ m.own Bb
  ba : BoxC w Ba DA.C
  bb : BoxC w Bb DB.C
  fa : ∀ j, w.frozen? ⟨Ba, j, none⟩ = false
  fb : ∀ j, w.frozen? ⟨Bb, j, none⟩ = false
  sa : SdSim w S2 DA
  sb : RvSim w R2 DB
  va : 0 < S2.L.length → Away w m.own Ba Bb DA.vm
  v10 : Away w m.own Ba Bb DA.v10
  v11 : Away w m.own Ba Bb DB.v11
  u : Ws w U n f2
  ua : Away w m.own Ba Bb (.slice U 0 0)
  six : 6 ≤ w0.heap.size
section
variable {w0 w w' : World} {n g B C : Nat} {S S2 : Sd} {R R2 : Rv} {f f2 : Nat → Int} {K : Int} {Ba Bb : Nat} {DA DB : DS} {U : Option Addr} {m : Blk} {c : Int}
theorem Px.lt (h : Px w0 w n g B C S R f S2 R2 f2 K Ba Bb DA DB U m c) : Ba < w.heap.size ∧ Bb < w.heap.size := ⟨cell_lt h.ba.all.1, cell_lt h.bb.all.1⟩
theorem Away.more {own : Nat → Prop} {v : Value} (h : Away w own Ba Bb v) (hs : w.heap.size ≤ w'.heap.size) : Away w' own Ba Bb v := fun x hx => ⟨Nat.lt_of_lt_of_le (h x hx).1 hs, (h x hx).2⟩
/-- Blocks that nothing of it lies in may change. -/
theorem Px.chg {S0 : Nat → Prop} (h : Px w0 w n g B C S R f S2 R2 f2 K Ba Bb DA DB U m c) (hC : Chg S0 w w') (hS : ∀ x, x < w.heap.size → ¬ S0 x) : Px w0 w' n g B C S R f S2 R2 f2 K Ba Bb DA DB U m c := by
  have hB : Below w.heap.size w w' := ⟨hC.os, hC.tape, hC.output, hC.size, fun k hk => hC.block k hk (hS k hk)⟩
  have hl := h.lt
  have hb0 : Below w0.heap.size w0 w' := h.bel.trans (hB.mono h.bel.size)
  exact ⟨h.sys.keep hB, h.ck, h.g, h.B, h.C, hb0, h.lo, h.ab, h.ba.keep hB, h.bb.keep hB, fun j => by rw [hC.frozen (a := ⟨Ba, j, none⟩) hl.1 (hS _ hl.1)]; exact h.fa j, fun j => by rw [hC.frozen (a := ⟨Bb, j, none⟩) hl.2 (hS _ hl.2)]; exact h.fb j,
    h.sa.chg hC (fun h0 x hx => hS x (h.va h0 x hx).1) (fun x hx => hS x (h.v10 x hx).1), h.sb.chg hC (fun x hx => hS x (h.v11 x hx).1), fun h0 => (h.va h0).more hC.size, h.v10.more hC.size, h.v11.more hC.size, h.u.keep hB, h.ua.more hC.size, h.six⟩
theorem Px.keep (h : Px w0 w n g B C S R f S2 R2 f2 K Ba Bb DA DB U m c) (hB : Below w.heap.size w w') : Px w0 w' n g B C S R f S2 R2 f2 K Ba Bb DA DB U m c :=
  h.chg (S0 := fun _ => False) (Chg.of_below hB) fun _ _ => id
theorem Px.sysR (h : Px w0 w n g B C S R f S2 R2 f2 K Ba Bb DA DB U m c) : SysR w0 n g B C S R f K w := ⟨m, c, h.sys, h.ck, h.g, h.B, h.C, h.bel, h.lo⟩
theorem Px.go {S' : Sd} {R' : Rv} {f' : Nat → Int} (h : Px w0 w n g B C S R f S2 R2 f2 K Ba Bb DA DB U m c) (hA : StepA n m S' R' f' c w w') : ∃ m' c', Px w0 w' n g B C S' R' f' S2 R2 f2 (K + 1) Ba Bb DA DB U m' c' := by
  obtain ⟨m', c', h8, _, h9, h10, h11, h12, h13, h14⟩ := hA
  have hl := h.lt
  have no : ∀ x, x < w.heap.size → ¬ m.own x → ¬ m'.own x := fun x hx hn hk => by
    rcases h14 x hk with e | e
    · exact hn e
    · omega
  have aw : ∀ {v : Value}, Away w m.own Ba Bb v → Away w' m'.own Ba Bb v := fun ha x hx => ⟨Nat.lt_of_lt_of_le (ha x hx).1 h13.size, no x (ha x hx).1 (ha x hx).2.1, (ha x hx).2.2⟩
  refine ⟨m', c', h8, by have := h.ck; omega, h10.trans h.g, h11.trans h.B, h12.trans h.C, h.bel.trans (h13.below h.lo h.bel.size), fun k hk => ?_, ⟨h.ab.1, h.ab.2.1, h.ab.2.2.1, no _ hl.1 h.ab.2.2.2.1, no _ hl.2 h.ab.2.2.2.2⟩, h.ba.chg h13 h.ab.2.2.2.1, h.bb.chg h13 h.ab.2.2.2.2,
    fun j => by rw [h13.frozen (a := ⟨Ba, j, none⟩) hl.1 h.ab.2.2.2.1]; exact h.fa j, fun j => by rw [h13.frozen (a := ⟨Bb, j, none⟩) hl.2 h.ab.2.2.2.2]; exact h.fb j,
    h.sa.chg h13 (fun h0 x hx => (h.va h0 x hx).2.1) (fun x hx => (h.v10 x hx).2.1), h.sb.chg h13 (fun x hx => (h.v11 x hx).2.1), fun h0 => aw (h.va h0), aw h.v10, aw h.v11, h.u.chgU h13 (fun x o e => (h.ua x (by rw [e]; rfl)).2.1), aw h.ua, h.six⟩
  rcases h14 k hk with e | e
  · exact h.lo k e
  · have := h.bel.size; omega
theorem px_s (h : Px w0 w n g B C S R f S2 R2 f2 K Ba Bb DA DB U m c) (hK : K ≤ 1000000) : Calls Tryd.prog 19 #[.pointer (some ⟨B, 0, none⟩), .pointer (some ⟨g, 0, none⟩)] w fun e w' => e = .returned (.bool (decide (5 ≤ (S.step n f).ph))) ∧ ∃ m' c', Px w0 w' n g B C (S.step n f) R (S.word n f) S2 R2 f2 (K + 1) Ba Bb DA DB U m' c' := by
  have := h.ck
  rw [← h.g, ← h.B]
  exact (sys_s h.sys (by omega)).mono fun e w' ⟨he, ha⟩ => ⟨he, by
    have := h.go ha
    rw [← h.g, ← h.B] at this
    exact this⟩
theorem px_r (h : Px w0 w n g B C S R f S2 R2 f2 K Ba Bb DA DB U m c) (hK : K ≤ 1000000) : Calls Tryd.prog 20 #[.pointer (some ⟨C, 0, none⟩), .pointer (some ⟨g, 0, none⟩)] w fun e w' => e = .returned (.bool (decide (5 ≤ (R.step n f).ph))) ∧ ∃ m' c', Px w0 w' n g B C S (R.step n f) (R.word n f) S2 R2 f2 (K + 1) Ba Bb DA DB U m' c' := by
  have := h.ck
  rw [← h.g, ← h.C]
  exact (sys_r h.sys (by omega)).mono fun e w' ⟨he, ha⟩ => ⟨he, by
    have := h.go ha
    rw [← h.g, ← h.C] at this
    exact this⟩
theorem Fresh.away {v : Value} (h : Fresh w w' v) (hP : Px w0 w n g B C S R f S2 R2 f2 K Ba Bb DA DB U m c) : Away w' m.own Ba Bb v := fun x hx => by
  obtain ⟨q, a, b, rfl, h1, h2⟩ := h
  injection hx with hx
  have hx : q = x := hx
  have hl := hP.lt
  exact ⟨by omega, fun hk => by have := hP.sys.lt x hk; omega, by omega, by omega⟩
theorem new_away {U' : Option Addr} {f' : Nat → Int} (hP : Px w0 w n g B C S R f S2 R2 f2 K Ba Bb DA DB U m c) (hs : w.heap.size ≤ w'.heap.size) (h0 : 0 < n) (hW : Ws w' U' n f') (h : U' = U ∨ ∃ G, U' = some ⟨G, 0, none⟩ ∧ w.heap.size ≤ G) : Away w' m.own Ba Bb (.slice U' 0 0) := by
  rcases h with rfl | ⟨G, rfl, hG⟩
  · exact hP.ua.more hs
  · intro x hx
    injection hx with hx
    have hx : G = x := hx
    have hl := hP.lt
    have hg := ws_lt hW h0
    exact ⟨by omega, fun hk => by have := hP.sys.lt x hk; omega, by omega, by omega⟩
/-- The document's sender has done a step, and lies in its box. -/
theorem Px.docS {D' : DS} {U' : Option Addr} {w2 : World} (h : Px w0 w n g B C S R f S2 R2 f2 K Ba Bb DA DB U m c) (h0 : 0 < n) (hB : Below w.heap.size w w') (hS : SdSim w' (S2.step n f2) D') (hU : Ws w' U' n (S2.word n f2)) (hL : Loc w w' DA D' U U') (hX : Boxed w' w2 Ba D') :
    Px w0 w2 n g B C S R f (S2.step n f2) R2 (S2.word n f2) K Ba Bb D' DB U' m c := by
  have h1 := h.keep hB
  have hl := h1.lt
  have ua := new_away h hB.size h0 hU hL.2.2.2
  have va : 0 < (S2.step n f2).L.length → Away w' m.own Ba Bb D'.vm := fun h0 => by rw [hL.1]; exact h1.va (by rw [← Sd.step_L n f2 S2]; exact h0)
  have v10 : Away w' m.own Ba Bb D'.v10 := by
    rcases hL.2.1 with e | e
    · rw [e]; exact h1.v10
    · exact e.away h
  have hC := hX.chg
  have nb : ∀ k, m.own k → ¬ k = Ba := fun k hk e => h.ab.2.2.2.1 (e ▸ hk)
  exact ⟨h1.sys.chg hC nb (hC.six (fun k hk => by have hk : k = Ba := hk; have := h.ab.1; have := h.six; omega) h1.sys.G), h.ck, h.g, h.B, h.C, h1.bel.trans (hC.below (fun k hk => by rw [hk]; exact h.ab.1) h1.bel.size), h.lo, h.ab, hX.b, h1.bb.chg hC (fun e => h.ab.2.2.1 e.symm), hX.fz, fun j => by rw [hC.frozen (a := ⟨Bb, j, none⟩) hl.2 (fun e => h.ab.2.2.1 e.symm)]; exact h1.fb j,
    hS.chg hC (fun h0 x hx => (va h0 x hx).2.2.1) (fun x hx => (v10 x hx).2.2.1), h1.sb.chg hC (fun x hx => (h1.v11 x hx).2.2.1), fun h0 => (va h0).more hC.size, v10.more hC.size, h1.v11.more hC.size, hU.chgU hC (fun x o e => (ua x (by rw [e]; rfl)).2.2.1), ua.more hC.size, h.six⟩
/-- The document's receiver has done a step, and lies in its box. -/
theorem Px.docR {D' : DS} {U' : Option Addr} {w2 : World} (h : Px w0 w n g B C S R f S2 R2 f2 K Ba Bb DA DB U m c) (h0 : 0 < n) (hB : Below w.heap.size w w') (hS : RvSim w' (R2.step n f2) D') (hU : Ws w' U' n (R2.word n f2)) (hL : Loc w w' DB D' U U') (hX : Boxed w' w2 Bb D') :
    Px w0 w2 n g B C S R f S2 (R2.step n f2) (R2.word n f2) K Ba Bb DA D' U' m c := by
  have h1 := h.keep hB
  have hl := h1.lt
  have ua := new_away h hB.size h0 hU hL.2.2.2
  have v11 : Away w' m.own Ba Bb D'.v11 := by
    rcases hL.2.2.1 with e | e
    · rw [e]; exact h1.v11
    · exact e.away h
  have hC := hX.chg
  have nb : ∀ k, m.own k → ¬ k = Bb := fun k hk e => h.ab.2.2.2.2 (e ▸ hk)
  exact ⟨h1.sys.chg hC nb (hC.six (fun k hk => by have hk : k = Bb := hk; have := h.ab.2.1; have := h.six; omega) h1.sys.G), h.ck, h.g, h.B, h.C, h1.bel.trans (hC.below (fun k hk => by rw [hk]; exact h.ab.2.1) h1.bel.size), h.lo, h.ab, h1.ba.chg hC h.ab.2.2.1, hX.b, fun j => by rw [hC.frozen (a := ⟨Ba, j, none⟩) hl.1 h.ab.2.2.1]; exact h1.fa j, hX.fz,
    h1.sa.chg hC (fun h0 x hx => (h1.va h0 x hx).2.2.2) (fun x hx => (h1.v10 x hx).2.2.2), hS.chg hC (fun x hx => (v11 x hx).2.2.2), fun h0 => (h1.va h0).more hC.size, h1.v10.more hC.size, v11.more hC.size, hU.chgU hC (fun x o e => (ua x (by rw [e]; rfl)).2.2.2), ua.more hC.size, h.six⟩
/-- A Side is stored in its box. -/
theorem boxed_of {H : Nat} {D0 D : DS} (h : BoxC w H D0.C) (hz : ∀ j, w.frozen? ⟨H, j, none⟩ = false) : Boxed w (((((((((((((w.setCell ⟨H, 0, none⟩ (.int .i64 D.a)).setCell ⟨H, 1, none⟩ (.int .i64 D.n)).setCell ⟨H, 2, none⟩ (.int .i64 D.z)).setCell ⟨H, 3, none⟩ D.vm).setCell ⟨H, 4, none⟩ (.int .i64 D.ti)).setCell ⟨H, 5, none⟩ (.int .i64 D.did)).setCell ⟨H, 6, none⟩ (.int .u32 D.hd)).setCell ⟨H, 7, none⟩ (.int .u32 D.tl)).setCell ⟨H, 8, none⟩ (.int .i64 D.ln)).setCell ⟨H, 9, none⟩ (.string D.tx)).setCell ⟨H, 10, none⟩ D.v10).setCell ⟨H, 11, none⟩ D.v11).setCell ⟨H, 12, none⟩ (.bool D.ov)) H D := by
  refine ⟨((((((((((((((((((((((((((Chg.refl (S := fun k => k = H) w).set (a := ⟨H, 0, none⟩) rfl _)).set (a := ⟨H, 1, none⟩) rfl _)).set (a := ⟨H, 2, none⟩) rfl _)).set (a := ⟨H, 3, none⟩) rfl _)).set (a := ⟨H, 4, none⟩) rfl _)).set (a := ⟨H, 5, none⟩) rfl _)).set (a := ⟨H, 6, none⟩) rfl _)).set (a := ⟨H, 7, none⟩) rfl _)).set (a := ⟨H, 8, none⟩) rfl _)).set (a := ⟨H, 9, none⟩) rfl _)).set (a := ⟨H, 10, none⟩) rfl _)).set (a := ⟨H, 11, none⟩) rfl _)).set (a := ⟨H, 12, none⟩) rfl _), ?_, fun j => ?_⟩
  · exact (BoxC.set (BoxC.set (BoxC.set (BoxC.set (BoxC.set (BoxC.set (BoxC.set (BoxC.set (BoxC.set (BoxC.set (BoxC.set (BoxC.set (BoxC.set h 0 _) 1 _) 2 _) 3 _) 4 _) 5 _) 6 _) 7 _) 8 _) 9 _) 10 _) 11 _) 12 _)
  · simp only [World.frozen?_setCell]
    exact hz j
/-- All is new. -/
def dA0 (a : Int) (pl sz : Nat) (vm : Value) : DS := ⟨a, pl, sz, vm, 0, 0, 0, 0, 0, ⟨#[]⟩, .slice none 0 0, .slice none 0 0, false⟩
def dB0 (a : Int) (pl sz T : Nat) : DS := ⟨a, pl, sz, .slice none 0 0, T, 0, 0, 0, (0 : Nat), ⟨#[]⟩, .slice none 0 0, .slice none 0 0, false⟩
theorem sd0_sim {a : Int} {pl sz c1 : Nat} {A1 : Option Addr} {L : List ByteArray} (hS : Strs w.heap.size w A1 L) : SdSim w (sd0 a pl sz L) (dA0 a pl sz (.slice A1 L.length c1)) := by
  have hp : (sd0 a pl sz L).ph = if L.length = 0 then 5 else 0 := rfl
  have hp' : (sd0 a pl sz L).ph = 5 ∨ (sd0 a pl sz L).ph = 0 := by rw [hp]; split <;> simp
  refine ⟨0, A1, c1, 0, 0, 0, 0, ⟨#[]⟩, none, 0, none, 0, 0, false, rfl, hS, fun j u hu => by simp [sd0] at hu, fun _ => rfl, by omega, by omega, fun h1 h2 => ?_, fun h1 h2 => ?_, fun h5 => ?_, fun h5 _ => ?_⟩
  · omega
  · omega
  · rw [hp] at h5
    by_cases h : L.length = 0
    · rw [if_pos h] at h5; omega
    · rw [didS0 (by rw [hp, if_neg h])]
  · rw [hp] at h5
    by_cases h : L.length = 0
    · show 0 = L.length; omega
    · rw [if_neg h] at h5; omega
theorem rv0_sim {a : Int} {pl sz T : Nat} : RvSim w (rv0 a pl sz T) (dB0 a pl sz T) := by
  have hp : (rv0 a pl sz T).ph = if 0 = T then 5 else 0 := rfl
  have hp' : (rv0 a pl sz T).ph = 5 ∨ (rv0 a pl sz T).ph = 0 := by rw [hp]; split <;> simp
  refine ⟨0, 0, 0, 0, ⟨#[]⟩, none, 0, false, rfl, fun j u hu => by simp [rv0] at hu, fun _ => rfl, by omega, by omega, fun h1 h2 => ?_, fun h1 h2 => ?_, fun h5 => ?_, fun h5 _ => ?_, by omega, fun h1 h2 => ?_, fun h1 => ?_, fun h1 h2 => ?_⟩
  · omega
  · omega
  · rw [hp] at h5
    by_cases h : 0 = T
    · rw [if_pos h] at h5; omega
    · rw [didR0 (by rw [hp, if_neg h])]
  · rw [hp] at h5
    by_cases h : 0 = T
    · exact h
    · rw [if_neg h] at h5; omega
  · omega
  · omega
  · omega
theorem px_new {w2 w3 w4 w5 wb : World} {b LB d : Nat} {a : Int} {pl sz T c1 : Nat} {A1 : Option Addr} {L : List ByteArray} (h6 : 6 ≤ w0.heap.size) (hG : GOk w0) (hg : w0.heap.size ≤ g ∧ w0.heap.size ≤ b) (hMl : g < w2.heap.size ∧ b < w2.heap.size)
    (hT : SenderAt w3 B LB (.slice none 0 0) (sd0 a pl sz L).ph (sd0 a pl sz L)) (hB3 : Below w2.heap.size w2 w3) (hs2 : w2.heap.size ≤ B ∧ w2.heap.size ≤ LB) (hb2 : Below w0.heap.size w0 w2)
    (hR : ReceiverAt w4 C (.slice none 0 0) (rv0 a pl sz T).ph (rv0 a pl sz T)) (hB4 : Below w3.heap.size w3 w4) (hs3 : w3.heap.size ≤ C) (hSW : (sd0 a pl sz L).Wf) (hRW : (rv0 a pl sz T).Wf)
    (hB5 : Below w4.heap.size w4 w5) (hd : w4.heap.size ≤ d ∧ d < w5.heap.size) (hE : Chg (fun k => k = g ∨ k = b ∨ k = d) w5 wb) (hM : MemAt wb g b n f c) (hn : n ≤ 4096) (hf : U32 n f) (hc : 0 ≤ c ∧ c ≤ 1000) (hU : Ws wb (some ⟨d, 0, none⟩) n f) (hL : Strs w0.heap.size w0 A1 L)
    (CA CB : Array Value) (eA : CA = (dA0 a pl sz (.slice A1 L.length c1)).C.toArray) (eB : CB = (dB0 a pl sz T).C.toArray) :
    Px w0 ((wb.alloc (.cells CA 50)).alloc (.cells CB 50)) n g B C (sd0 a pl sz L) (rv0 a pl sz T) f (sd0 a pl sz L) (rv0 a pl sz T) f 1000 wb.heap.size (wb.heap.size + 1) (dA0 a pl sz (.slice A1 L.length c1)) (dB0 a pl sz T) (some ⟨d, 0, none⟩) ⟨g, b, B, LB, .slice none 0 0, C, .slice none 0 0⟩ c := by
  subst eA eB
  have z2 := hb2.size
  have z3 := hB3.size
  have z4 := hB4.size
  have z5 := hB5.size
  have zE := hE.size
  have hBl := hT.ltB
  have hLl := hT.lb
  have hCl := hR.ltB
  have hb5 : Below w0.heap.size w0 w5 := ((hb2.trans (hB3.mono z2)).trans (hB4.mono (by omega))).trans (hB5.mono (by omega))
  have hbb : Below w0.heap.size w0 wb := hb5.trans (hE.below (fun k hk => by omega) (by omega))
  have hA1 : Below wb.heap.size wb (wb.alloc (.cells (dA0 a pl sz (.slice A1 L.length c1)).C.toArray 50)) := (Below.refl _ _).alloc (Nat.le_refl _) _
  have hA : Below wb.heap.size wb ((wb.alloc (.cells (dA0 a pl sz (.slice A1 L.length c1)).C.toArray 50)).alloc (.cells (dB0 a pl sz T).C.toArray 50)) := hA1.alloc (by simp) _
  have sA := hA.size
  have sys : SysAt wb n ⟨g, b, B, LB, .slice none 0 0, C, .slice none 0 0⟩ (sd0 a pl sz L) (rv0 a pl sz T) f c :=
    sys_new hM (((hT.keep hB4).keep hB5).chg hE (fun e => by omega) (fun e => by omega) (fun x hx => by cases hx)) ((hR.keep hB5).chg hE (fun e => by omega) (fun x hx => by cases hx)) hSW hRW hf hn (hG.below (by omega) hbb) (by omega) (by omega) (by omega) (by omega) (by omega) (by omega) (by omega) (by omega) (by omega) hc.1
  have hown : ∀ k, (⟨g, b, B, LB, .slice none 0 0, C, .slice none 0 0⟩ : Blk).own k → w0.heap.size ≤ k ∧ k < w4.heap.size := fun k hk => by
    rcases hk with e | e | e | e | e | e | e
    · have e : k = g := e; omega
    · have e : k = b := e; omega
    · have e : k = B := e; omega
    · have e : k = LB := e; omega
    · cases e
    · have e : k = C := e; omega
    · cases e
  have hz := hbb.size
  have sz2 : ((wb.alloc (.cells (dA0 a pl sz (.slice A1 L.length c1)).C.toArray 50)).alloc (.cells (dB0 a pl sz T).C.toArray 50)).heap.size = wb.heap.size + 2 := by simp
  refine ⟨sys.keep hA, hc.2, rfl, rfl, rfl, hbb.trans (hA.mono hz), fun k hk => (hown k hk).1, ⟨hz, by omega, by omega, fun hk => by have := (hown _ hk).2; omega, fun hk => by have := (hown _ hk).2; omega⟩,
    fun j u hu => al_cell (al_new _ _ _ _ _ rfl (by simpa using hu)), fun j u hu => al_new _ _ _ _ _ (by simp) (by simpa using hu), fun j => ?_, fun j => frozen_at _ _ _ j _ (by simp), sd0_sim ((hL.keep (hbb.trans (hA.mono hz))).up (by omega)), rv0_sim, fun h0 x hx => ?_, fun x hx => (by cases hx), fun x hx => (by cases hx), hU.keep hA, fun x hx => ?_, h6⟩
  · rw [Below.frozen (B := wb.heap.size + 1) ((Below.refl _ _).alloc (by simp) _) (p := ⟨wb.heap.size, j, none⟩) (by simp)]
    exact frozen_new _ _ _ j
  · obtain ⟨q, o, rfl, hq, _⟩ := hL 0 h0
    injection hx with hx
    have hx : q = x := hx
    exact ⟨by omega, fun hk => by have := (hown _ hk).1; omega, by omega, by omega⟩
  · injection hx with hx
    have hx : d = x := hx
    exact ⟨by omega, fun hk => by have := (hown _ hk).2; omega, by omega, by omega⟩
end
end Go.Proofs.YtnmobalgghggnaaDoor
/-
  What the code tells and what the document has, compared.
-/
namespace Go.Proofs.YtnmobalgghggnaaDoor
open Go.RowKit

theorem bools_of_vals {w : World} {A : Option Addr} {l : List Bool} (h : Vals w A (l.map Value.bool)) : Bools w.heap.size w A l := fun i hi => by
  obtain ⟨b, o, e, hc⟩ := h i (.bool l[i]) (by simp [hi])
  exact ⟨b, o, e, cell_lt hc, hc⟩
theorem strs_of_vals {w : World} {A : Option Addr} {l : List ByteArray} (h : Vals w A (l.map Value.string)) : Strs w.heap.size w A l := fun i hi => by
  obtain ⟨b, o, e, hc⟩ := h i (.string l[i]) (by simp [hi])
  exact ⟨b, o, e, cell_lt hc, hc⟩
theorem vals_of_row {w : World} {d : Nat} {e : TypeId} {xs : List Value} (h : RowL w d e xs) : Vals w (some ⟨d, 0, none⟩) xs := fun j u hu => by
  have hj := (List.getElem?_eq_some_iff.1 hu).1
  refine ⟨d, 0, rfl, ?_⟩
  have hc := h.cell hj
  rw [Nat.zero_add, hc, ← hu, List.getElem?_eq_getElem hj]
theorem SdSim.vals {w : World} {s : Sd} {D : DS} (h : SdSim w s D) : ∃ P1 m1 q1 P2 m2 q2 P3 m3 q3, D.vm = .slice P1 m1 q1 ∧ D.v10 = .slice P2 m2 q2 ∧ D.v11 = .slice P3 m3 q3 := by
  obtain ⟨ti, A1, c1, did, hd, tl, ln, tx, A10, c10, A11, n11, c11, ov, rfl, _⟩ := h
  exact ⟨_, _, _, _, _, _, _, _, _, rfl, rfl, rfl⟩
theorem RvSim.vals {w : World} {r : Rv} {D : DS} (h : RvSim w r D) : ∃ P1 m1 q1 P2 m2 q2 P3 m3 q3, D.vm = .slice P1 m1 q1 ∧ D.v10 = .slice P2 m2 q2 ∧ D.v11 = .slice P3 m3 q3 := by
  obtain ⟨did, hd, tl, l, tx, A11, c11, ov, rfl, _⟩ := h
  exact ⟨_, _, _, _, _, _, _, _, _, rfl, rfl, rfl⟩
section
variable {w0 w : World} {n g B C : Nat} {S S2 : Sd} {R R2 : Rv} {f f2 : Nat → Int} {K : Int} {Ba Bb : Nat} {DA DB : DS} {U : Option Addr} {m : Blk} {c : Int}
theorem Px.more (h : Px w0 w n g B C S R f S2 R2 f2 K Ba Bb DA DB U m c) : Px w0 w n g B C S R f S2 R2 f2 (K + 1) Ba Bb DA DB U m c :=
  { h with ck := by have := h.ck; omega }
theorem px_words (h : Px w0 w n g B C S R f S R f K Ba Bb DA DB U m c) (W : World) (hB : Below w.heap.size w W) : Calls Tryd.prog 22 #[.pointer (some ⟨g, 0, none⟩)] W fun e w' => ∃ d, e = .returned (.slice (some ⟨d, 0, none⟩) n n) ∧ OwnU w' d n f ∧ Below w.heap.size w w' :=
  (run_words (h.keep hB).sysR).mono fun _ _ ⟨d, h1, h2, _, h4⟩ => ⟨d, h1, h2, hB.trans (h4.mono hB.size)⟩
theorem px_same (h : Px w0 w n g B C S R f S R f K Ba Bb DA DB U m c) (hn : n ≤ 100000) (cU : Nat) (W : World) (d : Nat) (hO : OwnU W d n f) (hB : Below w.heap.size w W) : Calls Tryd.prog 21 #[.slice (some ⟨d, 0, none⟩) n n, .slice U n cU] W fun e w' => e = .returned (.bool true) ∧ Below w.heap.size w w' :=
  (words_same (some ⟨d, 0, none⟩) U n n cU f W (fun i hi => ⟨d, 0, rfl, by rw [Nat.zero_add]; exact hO.cell hi⟩) (h.keep hB).u hn).mono fun _ _ ⟨h1, q, h2⟩ => ⟨h1, by subst h2; exact below_drewN hB q⟩
theorem px_sent (h : Px w0 w n g B C S R f S R f K Ba Bb DA DB U m c) (W : World) (hB : Below w.heap.size w W) : Calls Tryd.prog 14 #[.pointer (some ⟨B, 0, none⟩)] W fun e w' => ∃ d, e = .returned (.slice (some ⟨d, 0, none⟩) (S.sent.map Value.bool).length (S.sent.map Value.bool).length) ∧ RowL w' d 4 (S.sent.map Value.bool) ∧ Below w.heap.size w w' :=
  (run_sent (h.keep hB).sysR).mono fun _ _ ⟨d, h1, h2, _, h4⟩ => ⟨d, h1, h2, hB.trans (h4.mono hB.size)⟩
theorem px_sames (h : Px w0 w n g B C S R f S R f K Ba Bb DA DB U m c) (W : World) (d : Nat) (hO : RowL W d 4 (S.sent.map Value.bool)) (hB : Below w.heap.size w W) : Calls Tryd.prog 23 #[.slice (some ⟨d, 0, none⟩) (S.sent.map Value.bool).length (S.sent.map Value.bool).length, DA.v10] W fun e w' => e = .returned (.bool true) ∧ Below w.heap.size w w' := by
  obtain ⟨ti, A1, c1, did, hd, tl, ln, tx, A10, c10, A11, n11, c11, ov, e, hI⟩ := h.sa
  have e : DA.v10 = .slice A10 (S.sent.map Value.bool).length c10 := by rw [e]
  rw [e]
  have hk := h.sys.SW.k
  have hf := h.sys.SW.few
  exact (sames_same (some ⟨d, 0, none⟩) A10 S.sent _ _ c10 W.heap.size W (bools_of_vals (vals_of_row hO)) (bools_of_vals (hI.V.keep hB)) (by rw [List.length_map]) (by rw [List.length_map]; omega)).mono fun _ _ ⟨h1, q, h2⟩ => ⟨h1, by subst h2; exact below_drewN hB q⟩
theorem px_got (h : Px w0 w n g B C S R f S R f K Ba Bb DA DB U m c) (W : World) (hB : Below w.heap.size w W) : Calls Tryd.prog 15 #[.pointer (some ⟨C, 0, none⟩)] W fun e w' => ∃ d, e = .returned (.slice (some ⟨d, 0, none⟩) (R.got.map Value.string).length (R.got.map Value.string).length) ∧ RowL w' d 9 (R.got.map Value.string) ∧ Below w.heap.size w w' :=
  (run_got (h.keep hB).sysR).mono fun _ _ ⟨d, h1, h2, _, h4⟩ => ⟨d, h1, h2, hB.trans (h4.mono hB.size)⟩
theorem px_texts (h : Px w0 w n g B C S R f S R f K Ba Bb DA DB U m c) (W : World) (d : Nat) (hO : RowL W d 9 (R.got.map Value.string)) (hB : Below w.heap.size w W) : Calls Tryd.prog 24 #[.slice (some ⟨d, 0, none⟩) (R.got.map Value.string).length (R.got.map Value.string).length, DB.v11] W fun e w' => e = .returned (.bool true) ∧ Below w.heap.size w w' := by
  obtain ⟨did, hd, tl, l, tx, A11, c11, ov, e, hI⟩ := h.sb
  have e : DB.v11 = .slice A11 (R.got.map Value.string).length c11 := by rw [e]
  rw [e]
  have hk := h.sys.RW.k
  have hf := h.sys.RW.few
  exact (texts_same (some ⟨d, 0, none⟩) A11 R.got _ _ c11 W.heap.size W (strs_of_vals (vals_of_row hO)) (strs_of_vals (hI.V.keep hB)) (by rw [List.length_map]) (by rw [List.length_map]; omega)).mono fun _ _ ⟨h1, q, h2⟩ => ⟨h1, by subst h2; exact below_drewN hB q⟩
end
/-- The loop's relation. -/
def PlR (w1 : World) (g B C Ba Bb : Nat) (iv lv : Value) (wr : World) : Prop := ∃ (k : Nat) (S : Sd) (R : Rv) (f : Nat → Int) (DA DB : DS) (U : Option Addr) (cU : Nat) (m : Blk) (c : Int), k ≤ 250 ∧ iv = .int .i64 k ∧ lv = .slice U 80 cU ∧ Px w1 wr 80 g B C S R f S R f (1000 + k) Ba Bb DA DB U m c
/-- In the midst of a round. -/
def PlM (w1 : World) (g B C Ba Bb k : Nat) (lv : Value) (wr : World) : Prop := ∃ (S : Sd) (R : Rv) (f : Nat → Int) (DA DB : DS) (U : Option Addr) (cU : Nat) (m : Blk) (c : Int), lv = .slice U 80 cU ∧ Px w1 wr 80 g B C S R f S R f (1000 + k + 1) Ba Bb DA DB U m c
end Go.Proofs.YtnmobalgghggnaaDoor
