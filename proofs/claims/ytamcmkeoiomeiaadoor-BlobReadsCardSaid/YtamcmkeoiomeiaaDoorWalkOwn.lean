/-
  The walk of BlobOwn: what a reader reads is its own.
-/
import Derived.Test.YtamcmkeoiomeiaaDoorCall
import Derived.Deep.RegionWith
import Derived.Deep.DeepCutAuto
import Derived.Deep.Light
namespace Go.Proofs.YtamcmkeoiomeiaaDoor
open Go.RowKit

/-- n bytes that may be written, in a block of which P holds. -/
def Wr (P : Nat → Prop) (w : World) (A : Option Addr) (n : Nat) : Prop :=
  ∀ i, i < n → ∃ L, A = some ⟨L, 0, none⟩ ∧ P L ∧ (∃ x, w.cell? ⟨L, i, none⟩ = some (.int .u8 x)) ∧ w.frozen? ⟨L, i, none⟩ = false
theorem Wr.keep {P : Nat → Prop} {w w' : World} {A : Option Addr} {n : Nat} (h : Wr P w A n) (hb : Below w.heap.size w w') : Wr P w' A n := fun i hi => by
  obtain ⟨L, e, hP, ⟨x, h1⟩, h2⟩ := h i hi
  have hlt := cell_lt' h1
  exact ⟨L, e, hP, ⟨x, by rw [hb.cell (p := ⟨L, i, none⟩) hlt]; exact h1⟩, by rw [hb.frozen (p := ⟨L, i, none⟩) hlt]; exact h2⟩
theorem Wr.grown {P : Nat → Prop} {w w' : World} {g : Nat} {A : Option Addr} {n : Nat} (h : Wr P w A n) (hg : w.grownBy w' (some g)) (hP : ∀ L, P L → L ≠ g) : Wr P w' A n := fun i hi => by
  obtain ⟨L, e, hL, ⟨x, h1⟩, h2⟩ := h i hi
  have hlt := cell_lt' h1
  have hb := hg.block L hlt (fun e => hP L hL (by injection e))
  exact ⟨L, e, hL, ⟨x, by rw [World.cell?_of_block hb]; exact h1⟩, by rw [World.frozen?_of_block hb]; exact h2⟩
theorem Wr.mono {P Q : Nat → Prop} {w : World} {A : Option Addr} {n : Nat} (h : Wr P w A n) (hPQ : ∀ L, P L → Q L) : Wr Q w A n := fun i hi => by
  obtain ⟨L, e, hP, r⟩ := h i hi
  exact ⟨L, e, hPQ L hP, r⟩
theorem Wr.set_ {P : Nat → Prop} {w : World} {L i n : Nat} {y : Int} (h : Wr P w (some ⟨L, 0, none⟩) n) : Wr P (w.setCell ⟨L, i, none⟩ (.int .u8 y)) (some ⟨L, 0, none⟩) n := fun j hj => by
  obtain ⟨L', e, hP, ⟨x, h1⟩, h2⟩ := h j hj
  obtain rfl : L' = L := by injection e with e; injection e with e _; exact e.symm
  refine ⟨L', rfl, hP, ?_, by rw [World.frozen?_setCell]; exact h2⟩
  by_cases hij : i = j
  · subst hij
    exact ⟨y, World.cell?_setCell_same _ _ _ h1⟩
  · exact ⟨x, by rw [World.cell?_setCell_other _ _ _ _ (fun e => hij (by injection e))]; exact h1⟩
theorem Wr.any_ {P : Nat → Prop} {w : World} {A : Option Addr} {n : Nat} (h : Wr P w A n) (L i : Nat) (y : Int) : Wr P (w.setCell ⟨L, i, none⟩ (.int .u8 y)) A n := fun j hj => by
  obtain ⟨L', e, hP, ⟨x, h1⟩, h2⟩ := h j hj
  refine ⟨L', e, hP, ?_, by rw [World.frozen?_setCell]; exact h2⟩
  by_cases hij : (⟨L, i, none⟩ : Addr) = ⟨L', j, none⟩
  · rw [hij]
    exact ⟨y, World.cell?_setCell_same _ _ _ h1⟩
  · exact ⟨x, by rw [World.cell?_setCell_other _ _ _ _ hij]; exact h1⟩
theorem Wr.conv (P : Nat → Prop) (w : World) (s : ByteArray) (hP : P w.heap.size) : Wr P (convW w s) (some ⟨w.heap.size, 0, none⟩) s.size := fun i hi => by
  have h := convW_at w s i hi
  rw [add_lit, Nat.zero_add] at h
  exact ⟨w.heap.size, rfl, hP, ⟨_, h⟩, convW_frozen w s i hi⟩
theorem Wr.own {w : World} {base : Nat} {A : Option Addr} {n c : Nat} {t : ByteArray} (h : OwnB w base (.slice A n c) t) (hn : n = t.size) : Wr (fun L => base ≤ L) w A n := fun i hi => by
  rcases h.2 with ⟨hv, h0⟩ | ⟨g, cap, cur, hv, hg, hh, _⟩
  · omega
  · injection hv with e1 e2 e3
    subst e1
    have hc := World.ownsRow.cells h (g := g) rfl i _ (cellsOf_at t i (by omega))
    rw [add_lit, Nat.zero_add] at hc
    exact ⟨g, rfl, hg, ⟨_, hc⟩, by simp [World.frozen?, hh]⟩
/-- What a slice that is owned looks like. -/
theorem OwnB.slice {w : World} {base : Nat} {v : Value} {t : ByteArray} (h : OwnB w base v t) : ∃ A c, v = .slice A t.size c := by
  rcases h.2 with ⟨hv, h0⟩ | ⟨g, cap, cur, hv, _⟩
  · exact ⟨none, 0, by rw [hv, h0]⟩
  · exact ⟨_, _, hv⟩

namespace blobOwn

set_option maxHeartbeats 1000000 in
theorem walk_out (s : ByteArray) (n : Int) (w : World) (hG : GOk w) (h : 1000 < s.size ∨ n < 0 ∨ (s.size : Int) < n) :
    Calls Tryd.prog 8 #[.string s, .int .i64 n] w fun e w' => e = .returned (.bool true) ∧ Below w.heap.size w w' := by
  have HG := Lib.hid hG
  clear hG
  have hc : 1000 < s.size ∨ (s.size ≤ 1000 ∧ n < 0) ∨ (s.size ≤ 1000 ∧ 0 ≤ n ∧ (s.size : Int) < n) := by omega
  clear h
  rcases hc with h | ⟨h1, h2⟩ | ⟨h1, h2, h3⟩
  all_goals
    go_enter Tryd.func8, Tryd.ntmps8
    go_wp2_with fail
    refine (awake_any w HG.out).mono ?_
    rintro e w2 ⟨rfl, hB⟩
    have HB := Lib.hid hB
    clear hB
    go_wp2
    go_ret
    exact ⟨rfl, HB.out⟩

/-- The blocks of the two readers. -/
def Far (w : World) (g b g2 b2 : Nat) (L : Nat) : Prop := w.heap.size ≤ L ∧ L ≠ g ∧ L ≠ b ∧ L ≠ g2 ∧ L ≠ b2
/-- What both loops know. -/
def Rel (w : World) (s : ByteArray) (g b cap g2 b2 cap2 n : Nat) (A Al : Option Addr) (wr : World) : Prop :=
  Rd wr g b cap s n false ∧ Rd wr g2 b2 cap2 s 0 false ∧ Below w.heap.size w wr ∧ Wr (Far w g b g2 b2) wr A s.size ∧ Wr (Far w g b g2 b2) wr Al n

theorem Rel.set1 {w wr : World} {s : ByteArray} {g b cap g2 b2 cap2 n L i : Nat} {Al : Option Addr} {y : Int} (h : Rel w s g b cap g2 b2 cap2 n (some ⟨L, 0, none⟩) Al wr) (hP : Far w g b g2 b2 L) :
    Rel w s g b cap g2 b2 cap2 n (some ⟨L, 0, none⟩) Al (wr.setCell ⟨L, i, none⟩ (.int .u8 y)) := by
  obtain ⟨h1, h2, h3, h4, h5⟩ := h
  obtain ⟨p0, p1, p2, p3, p4⟩ := hP
  refine ⟨h1.set_far (p := ⟨L, i, none⟩) (Ne.symm p1) (Ne.symm p2) _, h2.set_far (p := ⟨L, i, none⟩) (Ne.symm p3) (Ne.symm p4) _, h3.setCell (p := ⟨L, i, none⟩) p0 _, h4.set_, ?_⟩
  exact h5.any_ L i y
theorem Rel.set2 {w wr : World} {s : ByteArray} {g b cap g2 b2 cap2 n L i : Nat} {A : Option Addr} {y : Int} (h : Rel w s g b cap g2 b2 cap2 n A (some ⟨L, 0, none⟩) wr) (hP : Far w g b g2 b2 L) :
    Rel w s g b cap g2 b2 cap2 n A (some ⟨L, 0, none⟩) (wr.setCell ⟨L, i, none⟩ (.int .u8 y)) := by
  obtain ⟨h1, h2, h3, h4, h5⟩ := h
  obtain ⟨p0, p1, p2, p3, p4⟩ := hP
  exact ⟨h1.set_far (p := ⟨L, i, none⟩) (Ne.symm p1) (Ne.symm p2) _, h2.set_far (p := ⟨L, i, none⟩) (Ne.symm p3) (Ne.symm p4) _, h3.setCell (p := ⟨L, i, none⟩) p0 _, h4.any_ L i y, h5.set_⟩

/-- What the last line knows: where both readers are. -/
def St (w : World) (s : ByteArray) (g b cap g2 b2 cap2 k kq : Nat) (W : World) : Prop := Below w.heap.size w W ∧ Rd W g b cap s k false ∧ Rd W g2 b2 cap2 s kq false
theorem St.drew {w : World} {s : ByteArray} {g b cap g2 b2 cap2 k kq : Nat} {W : World} (h : St w s g b cap g2 b2 cap2 k kq W) : St w s g b cap g2 b2 cap2 k kq W.drew := ⟨h.1.drew, h.2.1.drewN 1, h.2.2.drewN 1⟩
theorem text_in {w : World} {g b cap k m : Nat} {s : ByteArray} (h : Rd w g b cap s k false) (hm : k + m ≤ s.size) :
    Calls Tryd.prog 18 #[.pointer (some ⟨g, 0, none⟩), .int .i64 m] w fun e w' => e = .returned (.string (s.extract k (k + m))) ∧ Rd w' g b cap s (k + m) false ∧ w.grownBy w' (some g) := by
  have hl : lacks s k false m = false := by
    unfold lacks
    simp
    omega
  have hx := text_any h m
  have e1 : readS s k false m = s.extract k (k + m) := by
    unfold readS
    rw [hl]
    simp
  have e2 : nextAt s k false m = k + m := by
    unfold nextAt
    rw [hl]
    simp
  rw [e1, e2, hl] at hx
  exact hx

theorem list_own {w : World} {g b cap : Nat} {s : ByteArray} (h : Rd w g b cap s 0 false) (n : Nat) (hs : s.size ≤ 1000) (hn : n ≤ s.size) :
    Calls Tryd.prog 23 #[.pointer (some ⟨g, 0, none⟩), .int .i64 n] w fun e w' => ∃ A c, e = .returned (.slice A n c) ∧ Wr (fun L => w.heap.size ≤ L) w' A n ∧ Rd w' g b cap s n false ∧ w.grownBy w' (some g) := by
  have hl : lacks s 0 false n = false := by
    unfold lacks
    simp
    omega
  have hrs : (readS s 0 false n).size = n := by
    unfold readS
    rw [hl]
    simp [ByteArray.size_extract]
    omega
  have hna : nextAt s 0 false n = n := by
    unfold nextAt
    rw [hl]
    simp
  refine (list_any h n (by omega)).mono ?_
  rintro e w' ⟨v, he, hO, hR, hg⟩
  obtain ⟨A, c, rfl⟩ := hO.slice
  rw [hna, hl] at hR
  rw [hrs] at he
  refine ⟨A, c, he, ?_, hR, hg⟩
  rw [hrs] at hO
  exact Wr.own hO hrs.symm

set_option maxHeartbeats 4000000 in
set_option maxRecDepth 100000 in
theorem walk_in (s : ByteArray) (n : Nat) (w : World) (hG : GOk w) (hs : s.size ≤ 1000) (hn : n ≤ s.size) :
    Calls Tryd.prog 8 #[.string s, .int .i64 n] w fun e w' => e = .returned (.bool true) ∧ Below w.heap.size w w' := by
  have HG := Lib.hid hG
  have h0 := hG.lt
  have kc := conv_run s
  clear hG
  go_enter Tryd.func8, Tryd.ntmps8
  go_wp2_with fail
  refine (new_any ⟨w.heap.size, 0, none⟩ _ s _ (convW_at w s) (by omega)).mono ?_
  rintro e w1 ⟨g, b, cap, rfl, hR, hg0, hb0, hB⟩
  rw [convW_size] at hg0 hb0
  have HR := Lib.hid hR
  have hgl := hR.glt
  have hbl := hR.lt
  have HW1 := Lib.hid ((Wr.conv (fun L => L = w.heap.size) w s rfl).keep hB)
  have HB := Lib.hid ((convW_below w s).trans (hB.mono (by rw [convW_size]; omega)))
  clear hR hB
  go_wp2_with fail
  refine (new_any ⟨w1.heap.size, 0, none⟩ _ s _ (convW_at w1 s) (by omega)).mono ?_
  rintro e w2 ⟨g2, b2, cap2, rfl, hR, hg20, hb20, hB⟩
  rw [convW_size] at hg20 hb20
  have hB2 : Below w1.heap.size w1 w2 := (convW_below w1 s).trans (hB.mono (by rw [convW_size]; omega))
  have HR2 := Lib.hid (HR.out.below hB2)
  have HQ2 := Lib.hid hR
  have hgl2 := hR.glt
  have hbl2 := hR.lt
  have HW2 := Lib.hid (HW1.out.keep hB2)
  have HB2 := Lib.hid (HB.out.trans (hB2.mono HB.out.size))
  have hsz2 := hB2.size
  clear hR hB hB2 HR HB HW1 kc
  go_wp2_with fail
  refine (list_own HR2.out n hs hn).mono ?_
  rintro e w3 ⟨Al, cl, rfl, hWl, hR, hO⟩
  have hrel : Rel w s g b cap g2 b2 cap2 n (some ⟨w.heap.size, 0, none⟩) Al w3 :=
    ⟨hR, HQ2.out.grown hO (fun e => by injection e with e; omega) (fun e => by injection e with e; omega), below_only HB2.out (Nat.le_refl _) hO (by omega),
      ((HW2.out.grown hO (fun L hL => by omega)).mono fun L hL => ⟨by omega, by omega, by omega, by omega, by omega⟩), hWl.mono fun L hL => ⟨by omega, by omega, by omega, by omega, by omega⟩⟩
  have HL := Lib.hid hrel
  clear hrel hWl hR hO HR2 HQ2 HW2 HB2
  go_wp2_with fail
  go_loopw [9] (fun i wr => ∃ j : Nat, Rel w s g b cap g2 b2 cap2 n (some ⟨w.heap.size, 0, none⟩) Al wr ∧ j ≤ s.size ∧ i = .int .i64 j) (fun i _ => s.size - (intOf i).toNat)
  case atStart => exact ⟨0, HL.out, by omega, rfl⟩
  case round =>
    obtain ⟨j, hrel, hj, rfl⟩ := hrel
    have HR := Lib.hid hrel
    clear hrel HL
    by_cases hlt : j < s.size
    · obtain ⟨L, hL, hP, ⟨x, hc⟩, hf⟩ := HR.out.2.2.2.1 j hlt
      obtain rfl : L = w.heap.size := by injection hL with hL; injection hL with hL _; exact hL.symm
      have HP := Lib.hid hP
      clear hL hP
      go_wp2
      go_roundw
      case rel => exact ⟨j + 1, HR.out.set1 HP.out, hlt, by go_num⟩
      case measure => simp [intOf]; omega
    · obtain rfl : j = s.size := by omega
      clear hlt hj
      go_wp2_with fail
      have HL := Lib.hid HR.out
      clear HR
      go_loopw [10] (fun i wr => ∃ j : Nat, Rel w s g b cap g2 b2 cap2 n (some ⟨w.heap.size, 0, none⟩) Al wr ∧ j ≤ n ∧ i = .int .i64 j) (fun i _ => n - (intOf i).toNat)
      case atStart => exact ⟨0, HL.out, by omega, rfl⟩
      case round =>
        obtain ⟨j, hrel, hj, rfl⟩ := hrel
        have HR := Lib.hid hrel
        clear hrel HL
        by_cases hlt : j < n
        · obtain ⟨L, rfl, hP, ⟨x, hc⟩, hf⟩ := HR.out.2.2.2.2 j hlt
          have HP := Lib.hid hP
          clear hP
          go_wp2
          go_roundw
          case rel => exact ⟨j + 1, HR.out.set2 HP.out, hlt, by go_num⟩
          case measure => simp [intOf]; omega
        · obtain rfl : j = n := by omega
          clear hlt hj
          have S0 : Hid (St w s g b cap g2 b2 cap2 j 0 wr) := ⟨HR.out.2.2.1, HR.out.1, HR.out.2.1⟩
          have CA : Hid (∀ W, St w s g b cap g2 b2 cap2 j 0 W → Calls Tryd.prog 10 #[] W fun e w' => e = .returned (.bool true) ∧ St w s g b cap g2 b2 cap2 j 0 w') := fun W h =>
            (awake_any W (HG.out.below h.1 h0)).mono fun _ _ ⟨he, hb⟩ => ⟨he, h.1.trans (hb.mono h.1.size), h.2.1.below hb, h.2.2.below hb⟩
          have CT : Hid (∀ W, St w s g b cap g2 b2 cap2 j 0 W → Calls Tryd.prog 18 #[.pointer (some ⟨g2, 0, none⟩), .int .i64 j] W fun e w' => e = .returned (.string (s.extract 0 j)) ∧ St w s g b cap g2 b2 cap2 j j w') := fun W h =>
            (text_in h.2.2 (m := j) (by omega)).mono fun _ _ ⟨he, hR, hO⟩ => by
              rw [Nat.zero_add] at he hR
              exact ⟨he, below_only h.1 (Nat.le_refl _) hO (by omega), h.2.1.grown hO (fun e => by injection e with e; omega) (fun e => by injection e with e; omega), hR⟩
          have CN : Hid (∀ W, St w s g b cap g2 b2 cap2 j j W → Calls Tryd.prog 17 #[.pointer (some ⟨g, 0, none⟩)] W fun e w' => e = .returned (.int .i64 j) ∧ W = w') := fun W h => at_any h.2.1
          have CU : Hid (∀ W, St w s g b cap g2 b2 cap2 j j W → Calls Tryd.prog 18 #[.pointer (some ⟨g, 0, none⟩), .int .i64 ((s.size : Int) - j)] W fun e w' => e = .returned (.string (s.extract j s.size)) ∧ St w s g b cap g2 b2 cap2 s.size j w') := fun W h => by
            have hx := text_in h.2.1 (m := s.size - j) (by omega)
            rw [show j + (s.size - j) = s.size by omega, show ((s.size - j : Nat) : Int) = (s.size : Int) - j by omega] at hx
            refine hx.mono ?_
            rintro e w' ⟨he, hR, hO⟩
            exact ⟨he, below_only h.1 (Nat.le_refl _) hO (by omega), hR, h.2.2.grown hO (fun e => by injection e with e; omega) (fun e => by injection e with e; omega)⟩
          have CE : Hid (∀ W, St w s g b cap g2 b2 cap2 s.size j W → Calls Tryd.prog 15 #[.pointer (some ⟨g, 0, none⟩)] W fun e w' => e = .returned .nilIface ∧ Below w.heap.size w w') := fun W h =>
            (end_told_ok h.2.1 (by omega)).mono fun _ _ ⟨he, hb⟩ => ⟨he, h.1.trans (hb.mono h.1.size)⟩
          clear HR
          go_wp2_with fail
          have hd : IntKind.i64.wrap ((s.size : Int) - j) = (s.size : Int) - j := IntWalk.i64_in _ (by omega)
          have hd0 : 0 ≤ (s.size : Int) - j := by omega
          generalize decide ((1000 : Int) < s.size) = q1
          generalize decide ((j : Int) < 0) = q2
          generalize (q1 || q2) = q3
          generalize grownCap w s.size 0 5 = q4
          generalize grownCap w1 s.size 0 5 = q5
          go_cut [4] (fun v wx => v = .bool true ∧ Below w.heap.size w wx)
          case first =>
            rename_i Q2 h1 K4 wrx K3 K2 hh Q1 a4 Q0 K1 a3 K0 a2 J K' a1 a0
            clear hh h1 a4 a3 a2 Q0 Q1
            refine wp_region_any (by kernel_rfl) ?_
            try (change wpAny _ _ _ _ _ _ _ (World.drew _))
            refine wpAny_ready (rs := [0]) (by kernel_rfl) (by simp) (AllReady.cons rfl (fun K hK => ?_) AllReady.nil)
            go_simp
            refine (CA.out _ S0.out.drew).mono ?_
            rintro e wa ⟨rfl, hS⟩
            have Swa := Lib.hid hS
            clear hS
            go_simp
            refine hK _ _ ?_
            clear hK K
            refine wpAny_take (i := 1) (v := ?_) rfl (by kernel_rfl) (by kernel_rfl) (by kernel_rfl) (fun _ _ _ h => h) (Or.inl ⟨by rfl, ?_⟩) ?_
            rotate_left
            · intro w0; go_simp; try with_reducible rfl
            go_simp
            refine wpAny_take (i := 2) (v := ?_) rfl (by kernel_rfl) (by kernel_rfl) (by kernel_rfl) (fun _ _ _ h => h) (Or.inl ⟨by rfl, ?_⟩) ?_
            rotate_left
            · intro w0; go_simp; try with_reducible rfl
            go_simp
            refine wpAny_take (i := 3) (v := ?_) rfl (by kernel_rfl) (by kernel_rfl) (by kernel_rfl) (fun _ _ _ h => h) (Or.inl ⟨by rfl, ?_⟩) ?_
            rotate_left
            · intro w0; go_simp; try with_reducible rfl
            go_simp
            refine wpAny_take (i := 5) (v := ?_) rfl (by kernel_rfl) (by kernel_rfl) (by kernel_rfl) (fun _ _ _ h => h) (Or.inl ⟨by rfl, ?_⟩) ?_
            rotate_left
            · intro w0; go_simp; try with_reducible rfl
            go_simp
            refine wpAny_take (i := 6) (v := ?_) rfl (by kernel_rfl) (by kernel_rfl) (by kernel_rfl) (fun _ _ _ h => h) (Or.inl ⟨by rfl, ?_⟩) ?_
            rotate_left
            · intro w0; go_simp; try with_reducible rfl
            go_simp
            refine wpAny_take (i := 7) (v := ?_) rfl (by kernel_rfl) (by kernel_rfl) (by kernel_rfl) (fun _ _ _ h => h) (Or.inl ⟨by rfl, ?_⟩) ?_
            rotate_left
            · intro w0; go_simp; try with_reducible rfl
            go_simp
            refine wpAny_ready (rs := [4]) (by kernel_rfl) (by simp) (AllReady.cons rfl (fun K hK => ?_) AllReady.nil)
            go_simp
            refine (CT.out _ Swa.out).mono ?_
            rintro e wb ⟨rfl, hS⟩
            have Swb := Lib.hid hS
            clear hS
            go_simp
            refine hK _ _ ?_
            clear hK K
            refine wpAny_take (i := 8) (v := ?_) rfl (by kernel_rfl) (by kernel_rfl) (by kernel_rfl) (fun _ _ _ h => h) (Or.inl ⟨by rfl, ?_⟩) ?_
            rotate_left
            · intro w0; go_simp; try with_reducible rfl
            go_simp
            refine wpAny_take (i := 9) (v := ?_) rfl (by kernel_rfl) (by kernel_rfl) (by kernel_rfl) (fun _ _ _ h => h) (Or.inl ⟨by rfl, ?_⟩) ?_
            rotate_left
            · intro w0; go_simp; try with_reducible rfl
            go_simp
            refine wpAny_take (i := 10) (v := ?_) rfl (by kernel_rfl) (by kernel_rfl) (by kernel_rfl) (fun _ _ _ h => h) (Or.inl ⟨by rfl, ?_⟩) ?_
            rotate_left
            · intro w0; go_simp; try with_reducible rfl
            go_simp
            refine wpAny_take (i := 11) (v := ?_) rfl (by kernel_rfl) (by kernel_rfl) (by kernel_rfl) (fun _ _ _ h => h) (Or.inl ⟨by rfl, ?_⟩) ?_
            rotate_left
            · intro w0; go_simp; try with_reducible rfl
            go_simp
            refine wpAny_take (i := 13) (v := ?_) rfl (by kernel_rfl) (by kernel_rfl) (by kernel_rfl) (fun _ _ _ h => h) (Or.inl ⟨by rfl, ?_⟩) ?_
            rotate_left
            · intro w0; go_simp; try with_reducible rfl
            go_simp
            refine wpAny_ready (rs := [12]) (by kernel_rfl) (by simp) (AllReady.cons rfl (fun K hK => ?_) AllReady.nil)
            go_simp
            refine (CN.out _ Swb.out).mono ?_
            rintro e w' ⟨rfl, rfl⟩
            go_simp
            refine hK _ _ ?_
            clear hK K
            refine wpAny_take (i := 14) (v := ?_) rfl (by kernel_rfl) (by kernel_rfl) (by kernel_rfl) (fun _ _ _ h => h) (Or.inl ⟨by rfl, ?_⟩) ?_
            rotate_left
            · intro w0; go_simp; try with_reducible rfl
            go_simp
            refine wpAny_take (i := 15) (v := ?_) rfl (by kernel_rfl) (by kernel_rfl) (by kernel_rfl) (fun _ _ _ h => h) (Or.inl ⟨by rfl, ?_⟩) ?_
            rotate_left
            · intro w0; go_simp; try with_reducible rfl
            go_simp
            refine wpAny_take (i := 16) (v := ?_) rfl (by kernel_rfl) (by kernel_rfl) (by kernel_rfl) (fun _ _ _ h => h) (Or.inl ⟨by rfl, ?_⟩) ?_
            rotate_left
            · intro w0; go_simp; try with_reducible rfl
            go_simp
            refine wpAny_take (i := 17) (v := ?_) rfl (by kernel_rfl) (by kernel_rfl) (by kernel_rfl) (fun _ _ _ h => h) (Or.inl ⟨by rfl, ?_⟩) ?_
            rotate_left
            · intro w0; go_simp; try with_reducible rfl
            go_simp
            refine wpAny_take (i := 18) (v := ?_) rfl (by kernel_rfl) (by kernel_rfl) (by kernel_rfl) (fun _ _ _ h => h) (Or.inl ⟨by rfl, ?_⟩) ?_
            rotate_left
            · intro w0; go_simp; try with_reducible rfl
            go_simp
            refine wpAny_take (i := 19) (v := ?_) rfl (by kernel_rfl) (by kernel_rfl) (by kernel_rfl) (fun _ _ _ h => h) (Or.inl ⟨by rfl, ?_⟩) ?_
            rotate_left
            · intro w0; go_simp; try with_reducible rfl
            go_simp
            refine wpAny_take (i := 20) (v := ?_) rfl (by kernel_rfl) (by kernel_rfl) (by kernel_rfl) (fun _ _ _ h => h) (Or.inl ⟨by rfl, ?_⟩) ?_
            rotate_left
            · intro w0; go_simp; try with_reducible rfl
            go_simp
            refine wpAny_take (i := 21) (v := ?_) rfl (by kernel_rfl) (by kernel_rfl) (by kernel_rfl) (fun _ _ _ h => h) (Or.inl ⟨by rfl, ?_⟩) ?_
            rotate_left
            · intro w0; go_simp; try with_reducible rfl
            go_simp
            refine wpAny_take (i := 23) (v := ?_) rfl (by kernel_rfl) (by kernel_rfl) (by kernel_rfl) (fun _ _ _ h => h) (Or.inl ⟨by rfl, ?_⟩) ?_
            rotate_left
            · intro w0; go_simp; try with_reducible rfl
            go_simp
            refine wpAny_take (i := 24) (v := ?_) rfl (by kernel_rfl) (by kernel_rfl) (by kernel_rfl) (fun _ _ _ h => h) (Or.inl ⟨by rfl, ?_⟩) ?_
            rotate_left
            · intro w0; go_simp; try with_reducible rfl
            go_simp
            refine wpAny_take (i := 25) (v := ?_) rfl (by kernel_rfl) (by kernel_rfl) (by kernel_rfl) (fun _ _ _ h => h) (Or.inl ⟨by rfl, ?_⟩) ?_
            rotate_left
            · intro w0; go_simp; try with_reducible rfl
            go_simp
            refine wpAny_ready (rs := [22]) (by kernel_rfl) (by simp) (AllReady.cons rfl (fun K hK => ?_) AllReady.nil)
            go_simp
            refine (CU.out _ Swb.out).mono ?_
            rintro e wc ⟨rfl, hS⟩
            have Swc := Lib.hid hS
            clear hS
            go_simp
            refine hK _ _ ?_
            clear hK K
            refine wpAny_take (i := 26) (v := ?_) rfl (by kernel_rfl) (by kernel_rfl) (by kernel_rfl) (fun _ _ _ h => h) (Or.inl ⟨by rfl, ?_⟩) ?_
            rotate_left
            · intro w0; go_simp; try with_reducible rfl
            go_simp
            refine wpAny_take (i := 27) (v := ?_) rfl (by kernel_rfl) (by kernel_rfl) (by kernel_rfl) (fun _ _ _ h => h) (Or.inl ⟨by rfl, ?_⟩) ?_
            rotate_left
            · intro w0; go_simp; try with_reducible rfl
            go_simp
            refine wpAny_take (i := 28) (v := ?_) rfl (by kernel_rfl) (by kernel_rfl) (by kernel_rfl) (fun _ _ _ h => h) (Or.inl ⟨by rfl, ?_⟩) ?_
            rotate_left
            · intro w0; go_simp; try with_reducible rfl
            go_simp
            refine wpAny_take (i := 29) (v := ?_) rfl (by kernel_rfl) (by kernel_rfl) (by kernel_rfl) (fun _ _ _ h => h) (Or.inl ⟨by rfl, ?_⟩) ?_
            rotate_left
            · intro w0; go_simp; try with_reducible rfl
            go_simp
            refine wpAny_ready (rs := [30]) (by kernel_rfl) (by simp) (AllReady.cons rfl (fun K hK => ?_) AllReady.nil)
            go_simp
            refine (CE.out _ Swc.out).mono ?_
            rintro e wd ⟨rfl, hS⟩
            have Swd := Lib.hid hS
            clear hS
            go_simp
            refine hK _ _ ?_
            clear hK K
            refine wpAny_take (i := 31) (v := ?_) rfl (by kernel_rfl) (by kernel_rfl) (by kernel_rfl) (fun _ _ _ h => h) (Or.inl ⟨by rfl, ?_⟩) ?_
            rotate_left
            · intro w0; go_simp; try with_reducible rfl
            go_simp
            refine wpAny_take (i := 32) (v := ?_) rfl (by kernel_rfl) (by kernel_rfl) (by kernel_rfl) (fun _ _ _ h => h) (Or.inl ⟨by rfl, ?_⟩) ?_
            rotate_left
            · intro w0; go_simp; try with_reducible rfl
            go_simp
            refine wpAny_take (i := 33) (v := ?_) rfl (by kernel_rfl) (by kernel_rfl) (by kernel_rfl) (fun _ _ _ h => h) (Or.inl ⟨by rfl, ?_⟩) ?_
            rotate_left
            · intro w0; go_simp; try with_reducible rfl
            go_simp
            refine wpAny_done (by kernel_rfl) ?_ _
            all_goals
              go_wp2_with fail
              go_meet
              exact ⟨rfl, Swd.out⟩
          case rest =>
            obtain ⟨rfl, hB⟩ := hcut
            go_wp2
            go_ret
            exact ⟨rfl, hB⟩
theorem walk (s : ByteArray) (n : Int) (w : World) (hG : GOk w) : Calls Tryd.prog 8 #[.string s, .int .i64 n] w fun e w' => e = .returned (.bool true) ∧ Below w.heap.size w w' := by
  by_cases h : 1000 < s.size ∨ n < 0 ∨ (s.size : Int) < n
  · exact walk_out s n w hG h
  · obtain ⟨m, rfl⟩ : ∃ m : Nat, n = m := ⟨n.toNat, by omega⟩
    exact walk_in s m w hG (by omega) (by omega)
end blobOwn
end Go.Proofs.YtamcmkeoiomeiaaDoor
