/-
  For every ring and every play: the document's step by step.
-/
import Derived.Test.YtnmobalgghggnaaDoorQJoin
import Derived.Deep.DeepCutAuto
import Derived.Deep.RegionHeld3
namespace Go.Proofs.YtnmobalgghggnaaDoor
open Go.RowKit
set_option linter.all false
theorem ws_made (w : World) (n : Nat) : Ws (w.alloc (.cells (madeCells #[.int .u32 0] n) 40)) (some ⟨w.heap.size, 0, none⟩) n (fun _ => 0) := fun i hi => ⟨_, _, rfl, by rw [Nat.zero_add]; exact (World.rowIs_made w (.int .u32 0) n 40).cell hi⟩
structure Hd (P : Prop) : Prop where
  out : P
structure Cut3 (M : Prop) where
  A : Prop
  B : Prop
  C : Prop
  imp : Hd A → Hd B → Hd C → M
set_option maxHeartbeats 3000000 in
set_option maxRecDepth 100000 in
def part : Cut3 (∀ (a r z t : Int) (h t2 : Int) (A1 A2 : Option Addr) (c1 n2 c2 : Nat) (L : List ByteArray) (q : Nat → Int) (w : World) (hG : GOk w) (hr : -9223372036854775808 ≤ r ∧ r ≤ 9223372036854775807) (ht : t ≤ 9223372036854775807) (hh : 0 ≤ h ∧ h < 4294967296) (ht2 : 0 ≤ t2 ∧ t2 < 4294967296) (hM : Strs w.heap.size w A1 L) (hs : ∀ i, i < L.length → (L.getD i ByteArray.empty).size ≤ 9223372036854775807) (hl : L.length ≤ 9223372036854775807) (hA2 : ArgN .u8 w.heap.size w A2 n2 q) (hn2 : n2 ≤ 9223372036854775807),
    Calls Tryd.prog 4 #[.agg #[.int .i64 a, .int .i64 r, .int .i64 z, .int .i64 t], .agg (playC h t2 A1 L.length c1 A2 n2 c2).toArray] w fun e w' => e = .returned (.bool true) ∧ Below w.heap.size w w') := ⟨_, _, _, fun HYPA HYPB HYPC => by
  intro a r z t h t2 A1 A2 c1 n2 c2 L q w hG hr ht hh ht2 hM hs hl hA2 hn2
  simp only [playC]
  have HG := Lib.hid hG
  have HM := Lib.hid hM
  have HS := Lib.hid hs
  have HA2 := Lib.hid hA2
  have HR := Lib.hid (And.intro hr (And.intro ht (And.intro hh ht2)))
  clear hG hM hs hA2
  go_enter Tryd.func4, Tryd.ntmps4
  go_wp2_with fail
  obtain ⟨w1, hw1⟩ : ∃ w1, w1 = (w.alloc (.cells #[.int .i64 a, .int .i64 r, .int .i64 z, .int .i64 t] 23)).alloc (.cells #[.int .u32 h, .int .u32 t2, .slice A1 L.length c1, .slice A2 n2 c2] 43) := ⟨_, rfl⟩
  have hB1 : Below w.heap.size w w1 := by rw [hw1]; exact ((Below.refl _ _).alloc (Nat.le_refl _) _).alloc (by simp) _
  have k0 : w1.cell? ⟨w.heap.size, 0, none⟩ = some (.int .i64 a) := by rw [hw1]; exact al_cell (al_new _ _ _ _ _ rfl rfl)
  have k1 : w1.cell? ⟨w.heap.size, 1, none⟩ = some (.int .i64 r) := by rw [hw1]; exact al_cell (al_new _ _ _ _ _ rfl rfl)
  have k2 : w1.cell? ⟨w.heap.size, 2, none⟩ = some (.int .i64 z) := by rw [hw1]; exact al_cell (al_new _ _ _ _ _ rfl rfl)
  have k3 : w1.cell? ⟨w.heap.size, 3, none⟩ = some (.int .i64 t) := by rw [hw1]; exact al_cell (al_new _ _ _ _ _ rfl rfl)
  have p0 : w1.cell? ⟨w.heap.size + 1, 0, none⟩ = some (.int .u32 h) := by rw [hw1]; exact al_new _ _ _ _ _ (by simp) rfl
  have p1 : w1.cell? ⟨w.heap.size + 1, 1, none⟩ = some (.int .u32 t2) := by rw [hw1]; exact al_new _ _ _ _ _ (by simp) rfl
  have p2 : w1.cell? ⟨w.heap.size + 1, 2, none⟩ = some (.slice A1 L.length c1) := by rw [hw1]; exact al_new _ _ _ _ _ (by simp) rfl
  have p3 : w1.cell? ⟨w.heap.size + 1, 3, none⟩ = some (.slice A2 n2 c2) := by rw [hw1]; exact al_new _ _ _ _ _ (by simp) rfl
  have hs1 : w1.heap.size = w.heap.size + 2 := by rw [hw1]; simp
  rw [← hw1]
  have p3w1 := p3
  have HB1 := Lib.hid hB1
  have HS1 := Lib.hid hs1
  have HAWK := Lib.hid (awake_any w1 (HG.out.below (six_of HG.out) HB1.out))
  clear hw1 hB1 hs1
  with_reducible refine (few_any A1 L L.length c1 w.heap.size w1 (HM.out.keep HB1.out) rfl HS.out).mono ?_
  rintro e w1' ⟨x, rfl, hx, rfl⟩
  have out : ∀ (e : Ending) (w' : World), AwakeP w1 e w' → e = .returned (.bool true) ∧ Below w.heap.size w w' := fun e w' ⟨he, hB⟩ => ⟨he, HB1.out.trans (hB.mono HB1.out.size)⟩
  have HOUT := Lib.hid out
  clear out
  cases x
  · as_aux_lemma =>
    clear hx
    go_wp2_with fail
    with_reducible refine HAWK.out.mono ?_
    rintro e w2 hA
    obtain ⟨rfl, hB2⟩ := HOUT.out _ _ hA
    have HB2 := Lib.hid hB2
    clear hA hB2
    go_wp2_with fail
    go_ret
    exact ⟨rfl, HB2.out⟩
  · have HF := Lib.hid (hx rfl)
    clear hx
    by_cases hb1 : a < -100
    · as_aux_lemma =>
      go_wp2_with fail
      with_reducible refine HAWK.out.mono ?_
      rintro e w2 hA
      obtain ⟨rfl, hB2⟩ := HOUT.out _ _ hA
      have HB2 := Lib.hid hB2
      clear hA hB2
      go_wp2_with fail
      go_ret
      exact ⟨rfl, HB2.out⟩
    by_cases hb2 : 100 < a
    · as_aux_lemma =>
      go_wp2_with fail
      with_reducible refine HAWK.out.mono ?_
      rintro e w2 hA
      obtain ⟨rfl, hB2⟩ := HOUT.out _ _ hA
      have HB2 := Lib.hid hB2
      clear hA hB2
      go_wp2_with fail
      go_ret
      exact ⟨rfl, HB2.out⟩
    by_cases hb3 : 30 < t
    · as_aux_lemma =>
      go_wp2_with fail
      with_reducible refine HAWK.out.mono ?_
      rintro e w2 hA
      obtain ⟨rfl, hB2⟩ := HOUT.out _ _ hA
      have HB2 := Lib.hid hB2
      clear hA hB2
      go_wp2_with fail
      go_ret
      exact ⟨rfl, HB2.out⟩
    by_cases hb4 : 32 < r
    · as_aux_lemma =>
      go_wp2_with fail
      with_reducible refine HAWK.out.mono ?_
      rintro e w2 hA
      obtain ⟨rfl, hB2⟩ := HOUT.out _ _ hA
      have HB2 := Lib.hid hB2
      clear hA hB2
      go_wp2_with fail
      go_ret
      exact ⟨rfl, HB2.out⟩
    go_wp2_with fail
    with_reducible refine (new_one 80 (by omega) (by omega) 80 rfl _).mono ?_
    rintro e w2 ⟨g, b, rfl, hM2, hg2, hb2', hB2⟩
    have HM2 := Lib.hid hM2
    have HI2 := Lib.hid (And.intro hg2 hb2')
    have HB2 := Lib.hid hB2
    have k0 := kept k0 hB2
    have k1 := kept k1 hB2
    have k2 := kept k2 hB2
    have k3 := kept k3 hB2
    have p0 := kept p0 hB2
    have p1 := kept p1 hB2
    have p2 := kept p2 hB2
    have p3 := kept p3 hB2
    have HS2 := Lib.hid ((HM.out.keep (HB1.out.trans (hB2.mono HB1.out.size))).up (Nat.le_trans HB1.out.size hB2.size))
    clear hM2 hg2 hb2' hB2
    go_wp2_with fail
    have HBW := Lib.hid (HB1.out.trans (HB2.out.mono HB1.out.size))
    by_cases hE0 : wordsE r z = 0
    · obtain ⟨hcap, hz⟩ := wordsE_zero hE0
      have hnb := cap_bounds r hcap
      obtain ⟨pl, hpl⟩ : ∃ pl : Nat, r = pl := ⟨r.toNat, by omega⟩
      obtain ⟨sz, hsz⟩ : ∃ sz : Nat, z = sz := ⟨z.toNat, by omega⟩
      obtain ⟨T, hT⟩ : ∃ T : Nat, max t 0 = T := ⟨(max t 0).toNat, by omega⟩
      have HNR := Lib.hid (fun W => newr_ok a r z t pl sz T W hpl hsz hT hcap hz)
      by_cases hg : ∀ m ∈ L, goodM z m
      · have HNS := Lib.hid (news_ok a r z pl sz L.length c1 A1 L w2 hpl hsz HS2.out rfl (by have := HF.out.1; omega) hcap hz hg)
        have HGM := Lib.hid (And.intro hg (And.intro hcap (And.intro hz (And.intro hpl (And.intro hsz hT)))))
        clear hg hcap hz hnb hpl hsz hT hE0
        with_reducible refine HNS.out.mono ?_
        rintro e w3 ⟨B, LB, rfl, hSA, hB, hLB, hne, hB3⟩
        have k0 := kept k0 hB3
        have k1 := kept k1 hB3
        have k2 := kept k2 hB3
        have k3 := kept k3 hB3
        have p0 := kept p0 hB3
        have p1 := kept p1 hB3
        have p2 := kept p2 hB3
        have p3 := kept p3 hB3
        have HSA := Lib.hid hSA
        have HI3 := Lib.hid (And.intro hB (And.intro hLB hne))
        have HB3 := Lib.hid (HBW.out.trans (hB3.mono HBW.out.size))
        have HB3' := Lib.hid hB3
        clear hSA hB hLB hne hB3
        go_wp2_with fail
        with_reducible refine (HNR.out _).mono ?_
        rintro e w4 ⟨C, rfl, hRA, hC, hB4⟩
        have k0 := kept k0 hB4
        have k1 := kept k1 hB4
        have k2 := kept k2 hB4
        have k3 := kept k3 hB4
        have p0 := kept p0 hB4
        have p1 := kept p1 hB4
        have p2 := kept p2 hB4
        have p3 := kept p3 hB4
        have HRA := Lib.hid hRA
        have HC4 := Lib.hid hC
        have HB4 := Lib.hid (HB3.out.trans (hB4.mono HB3.out.size))
        have HB4' := Lib.hid hB4
        clear hRA hC hB4
        go_wp2_with fail
        with_reducible refine (awake_any w4 (HG.out.below (six_of HG.out) HB4.out)).mono ?_
        rintro e w5 ⟨rfl, hB5⟩
        have k0 := kept k0 hB5
        have k1 := kept k1 hB5
        have k2 := kept k2 hB5
        have k3 := kept k3 hB5
        have p0 := kept p0 hB5
        have p1 := kept p1 hB5
        have p2 := kept p2 hB5
        have p3 := kept p3 hB5
        have HB5 := Lib.hid (HB4.out.trans (hB5.mono HB4.out.size))
        have HB5' := Lib.hid hB5
        clear hB5
        have hmk : ∀ W, Sem.run Tryd.prog (Instr.makeSlice 47 (.int .i64 80) (.int .i64 80)) W = _ := fun W => run_make_row' (P := Tryd.prog) 47 40 (.int .u32 0) 4 Tryd.underlying47 info40' rfl .i64 .i64 80 (by omega) (by omega) W
        go_upto_region 11 with fail
        have hW6 := ws_made w5 80
        have hF6 : ∀ j, (w5.alloc (.cells (madeCells #[.int .u32 0] 80) 40)).frozen? ⟨w5.heap.size, j, none⟩ = false := fun j => frozen_at _ _ _ j _ rfl
        obtain ⟨W6, hw6⟩ : ∃ W6, W6 = w5.alloc (.cells (madeCells #[.int .u32 0] 80) 40) := ⟨_, rfl⟩
        have hB56 : Below w5.heap.size w5 W6 := by rw [hw6]; exact (Below.refl _ _).alloc (Nat.le_refl _) _
        have hs6 : W6.heap.size = w5.heap.size + 1 := by rw [hw6]; simp
        rw [← hw6] at hW6 hF6 ⊢
        have k0 := kept k0 hB56
        have k1 := kept k1 hB56
        have k2 := kept k2 hB56
        have k3 := kept k3 hB56
        have p0 := kept p0 hB56
        have p1 := kept p1 hB56
        have p2 := kept p2 hB56
        have p3 := kept p3 hB56
        have HF6 := Lib.hid hF6
        have HU6 := Lib.hid hW6
        have HS6 := Lib.hid hs6
        have HB56 := Lib.hid hB56
        have HKP := Lib.hid (And.intro k0 (And.intro k1 (And.intro k2 (And.intro k3 (And.intro p0 (And.intro p1 (And.intro p2 p3)))))))
        have wa1 : IntKind.i64.wrap (a + 1) = a + 1 := IntWalk.i64_in _ (by omega)
        clear hW6 hF6 hB56 hs6 hw6 hmk
        go_cut [102] (fun bv wx => bv = .bool (decide (0 ≤ a ∧ a + 1 < 80)) ∧ W6 = wx)
        case first => as_aux_lemma =>
          by_cases hlow : 0 ≤ a
          · by_cases hhi : a + 1 < 80
            · go_wp2_with fail
              go_meet
              case rel => exact ⟨congrArg Value.bool (decide_eq_true (show 0 ≤ a ∧ a + 1 < 80 from ⟨hlow, hhi⟩)).symm, rfl⟩
            · go_wp2_with fail
              go_meet
              case rel => exact ⟨congrArg Value.bool (decide_eq_false (show ¬ (0 ≤ a ∧ a + 1 < 80) by omega)).symm, rfl⟩
          · go_wp2_with fail
            go_meet
            case rel => exact ⟨congrArg Value.bool (decide_eq_false (show ¬ (0 ≤ a ∧ a + 1 < 80) by omega)).symm, rfl⟩
        case rest =>
        obtain ⟨rfl, rfl⟩ := hcut
        obtain ⟨zb, hz⟩ : ∃ z : Bool, z = decide (0 ≤ a ∧ a + 1 < 80) := ⟨_, rfl⟩
        have HZ := Lib.hid hz
        rw [← hz]
        clear hz
        go_upto_if 102 with fail
        go_cut [] (fun wx => ∃ (f : Nat → Int) (c : Int), U32 80 f ∧ (0 ≤ c ∧ c ≤ 2) ∧ MemAt wx g b 80 f c ∧ Ws wx (some ⟨w5.heap.size, 0, none⟩) 80 f ∧ Chg (fun k => k = g ∨ k = b ∨ k = w5.heap.size) W6 wx)
        case first =>
          cases zb with
          | true =>
            have hin := of_decide_eq_true HZ.out.symm
            obtain ⟨i, hi⟩ : ∃ i : Nat, a = i := ⟨a.toNat, by omega⟩
            subst hi
            have hi80 : i + 1 < 80 := by omega
            have hi0 : (0 : Int) ≤ i := by omega
            have hi1 : (i : Int) < 80 := by omega
            have hi2 : (0 : Int) ≤ (i : Int) + 1 := by omega
            have hi3 : (i : Int) + 1 < 80 := by omega
            have hi4 : ((i : Int) + 1).toNat = i + 1 := by omega
            have f0 := HF6.out i
            have f1 := HF6.out (i + 1)
            have c0 := HU6.out.cell (i := i) (by omega)
            have c1' := HU6.out.cell (i := i + 1) (by omega)
            rw [Nat.zero_add] at c0 c1'
            clear hin
            have hsz5 : w.heap.size + 2 ≤ w5.heap.size := by have h1 := HS1.out; have h2 := HB2.out.size; have h3 := HB3'.out.size; have h4 := HB4'.out.size; have h5 := HB5'.out.size; omega
            have hn1 : w.heap.size ≠ w5.heap.size := by omega
            have hn2 : w5.heap.size ≠ w.heap.size := by omega
            have hn3 : w.heap.size + 1 ≠ w5.heap.size := by omega
            have hn4 : w5.heap.size ≠ w.heap.size + 1 := by omega
            clear hsz5
            go_wp2_with fail
            go_region_held3 (fun w' => w'.cell? ⟨w.heap.size, 0, none⟩ = some (.int .i64 (i : Int)) ∧ w'.cell? ⟨w.heap.size + 1, 0, none⟩ = some (.int .u32 h) ∧ w'.cell? ⟨w.heap.size + 1, 1, none⟩ = some (.int .u32 t2)) (go_keep) (fail)
            all_goals
              obtain ⟨W7, hw7⟩ : ∃ W7, W7 = ((W6.setCell ⟨w5.heap.size, i, none⟩ (.int .u32 h)).setCell ⟨w5.heap.size, i + 1, none⟩ (.int .u32 t2)).drew := ⟨_, rfl⟩
              have hC7 : Chg (fun k => k = w5.heap.size) W6 W7 := by
                rw [hw7]
                have := ((Chg.refl (S := fun k => k = w5.heap.size) W6).set (a := ⟨w5.heap.size, i, none⟩) rfl (.int .u32 h)).set (a := ⟨w5.heap.size, i + 1, none⟩) rfl (.int .u32 t2)
                exact ⟨this.os, this.tape, this.output, this.size, this.block⟩
              have hU7 : Ws W7 (some ⟨w5.heap.size, 0, none⟩) 80 (upd (upd (fun _ => 0) i h) (i + 1) t2) := by
                rw [hw7]
                exact Ws.chg (S := fun _ => False) ((HU6.out.set0 (i := i) (by omega) h).set0 (i := i + 1) (by omega) t2) ⟨rfl, rfl, rfl, Nat.le_refl _, fun _ _ _ => rfl⟩ id
              rw [← hw7]
              have hM6 := (((HM2.out.keep HB3'.out).keep HB4'.out).keep HB5'.out).keep HB56.out
              have hgl := HM2.out.ltg
              have hbl := HM2.out.row.lt
              have hz3 := HB3'.out.size
              have hz4 := HB4'.out.size
              have hz5 := HB5'.out.size
              have hI2 := HI2.out
              have hS1 := HS1.out
              have hM7 := hC7.mem hM6 (by omega) (by omega)
              have HB7 := Lib.hid ((HB5.out.trans (HB56.out.mono HB5.out.size)).trans (hC7.below (fun k hk => by rw [hk]; exact HB5.out.size) (Nat.le_trans HB5.out.size HB56.out.size)))
              have k0 := hC7.cell k0 hn1
              have p0 := hC7.cell p0 hn3
              have p1 := hC7.cell p1 hn3
              have HC7 := Lib.hid hC7
              have HU7 := Lib.hid hU7
              have HMM := Lib.hid (store_yes h i g b 80 (fun _ => 0) 0 W7 (HG.out.below (six_of HG.out) HB7.out) hM7 (by omega) (by omega) (by omega))
              have HNG := Lib.hid (show (w.heap.size ≠ g ∧ w.heap.size ≠ b) ∧ (w.heap.size + 1 ≠ g ∧ w.heap.size + 1 ≠ b) ∧ w5.heap.size ≠ g ∧ w5.heap.size ≠ b ∧ w.heap.size ≤ g ∧ w.heap.size ≤ b from by omega)
              clear hw7 hC7 hU7 hM6 hgl hbl hz3 hz4 hz5 hI2 hS1 hM7 c0 c1' f0 f1
              go_wp2_with fail
              with_reducible refine HMM.out.mono ?_
              rintro e W8 ⟨rfl, hM8, hE8⟩
              have hC8 := Chg.of_else hE8
              have k0 := hC8.cell k0 (show ¬ (w.heap.size = g ∨ w.heap.size = b) by have := HNG.out; omega)
              have p1 := hC8.cell p1 (show ¬ (w.heap.size + 1 = g ∨ w.heap.size + 1 = b) by have := HNG.out; omega)
              have HC8 := Lib.hid hC8
              have HB8 := Lib.hid (HB7.out.trans (hC8.below (fun k hk => by have := HNG.out; omega) HB7.out.size))
              have hM8 : MemAt W8 g b 80 (upd (fun _ => 0) i h) 1 := hM8
              have HM8 := Lib.hid (store_yes t2 (i + 1) g b 80 (upd (fun _ => 0) i h) 1 W8 (HG.out.below (six_of HG.out) HB8.out) hM8 (by omega) (by omega) (by omega))
              rw [Int.natCast_add, show ((1 : Nat) : Int) = 1 from rfl] at HM8
              clear hM8 hE8 hC8
              go_wp2_with fail
              with_reducible refine HM8.out.mono ?_
              rintro e W9 ⟨rfl, hM9, hE9⟩
              have hM9 : MemAt W9 g b 80 (upd (upd (fun _ => 0) i h) (i + 1) t2) (1 + 1) := hM9
              have HC9 := Lib.hid (Chg.of_else hE9)
              have HM9 := Lib.hid hM9
              clear hM9 hE9
              go_wp2_with fail
              go_meet
              case rel =>
                have hCC : Chg (fun k => k = g ∨ k = b) W7 W9 := HC8.out.trans HC9.out
                refine ⟨_, _, fun j _ => ?_, by omega, HM9.out, HU7.out.chg hCC (fun e => by have := HNG.out; omega), (HC7.out.mono fun k hk => .inr (.inr hk)).trans (hCC.mono fun k hk => by rcases hk with hk | hk; exact .inl hk; exact .inr (.inl hk))⟩
                by_cases e1 : j = i + 1
                · subst e1; rw [upd_same]; exact ht2
                · rw [upd_other e1]
                  by_cases e2 : j = i
                  · subst e2; rw [upd_same]; exact hh
                  · rw [upd_other e2]; omega
          | false => as_aux_lemma =>
            have := of_decide_eq_false HZ.out.symm
            go_wp2_with fail
            go_meet
            case rel => exact ⟨fun _ => 0, 0, fun _ _ => by show (0 : Int) ≤ 0 ∧ (0 : Int) < 4294967296; omega, by omega, (((HM2.out.keep HB3'.out).keep HB4'.out).keep HB5'.out).keep HB56.out, HU6.out, Chg.refl _⟩
        case rest =>
        obtain ⟨f, c, hf, hc, hm, hu, hch⟩ := hcut
        have HFF := Lib.hid (And.intro hf (And.intro hc (And.intro hm (And.intro hu hch))))
        have hsz5 : w.heap.size + 2 ≤ w5.heap.size := by have h1 := HS1.out; have h2 := HB2.out.size; have h3 := HB3'.out.size; have h4 := HB4'.out.size; have h5 := HB5'.out.size; omega
        have hgb : w.heap.size + 2 ≤ g ∧ w.heap.size + 2 ≤ b := by have h1 := HS1.out; have h2 := HI2.out; omega
        have nC : ∀ j : Nat, j < 2 → ¬ (w.heap.size + j = g ∨ w.heap.size + j = b ∨ w.heap.size + j = w5.heap.size) := fun j hj => by omega
        have k0 := hch.cell HKP.out.1 (nC 0 (by omega))
        have k1 := hch.cell HKP.out.2.1 (nC 0 (by omega))
        have k2 := hch.cell HKP.out.2.2.1 (nC 0 (by omega))
        have k3 := hch.cell HKP.out.2.2.2.1 (nC 0 (by omega))
        have p2 := hch.cell HKP.out.2.2.2.2.2.2.1 (nC 1 (by omega))
        have p3 := hch.cell HKP.out.2.2.2.2.2.2.2 (nC 1 (by omega))
        clear hf hc hm hu hch nC hsz5 hgb
        go_upto_if 136 with fail
        go_cut [12] (fun tv wx => tv = .int .i64 (T : Nat) ∧ wc = wx)
        case first => as_aux_lemma =>
          by_cases ht0 : t < 0
          · have hTe := Lib.hid (show (0 : Int) = (T : Nat) by have := HGM.out.2.2.2.2.2; omega)
            go_wp2_with fail
            go_meet
            case rel => exact ⟨congrArg (Value.int .i64) hTe.out, rfl⟩
          · have hTe := Lib.hid (show t = (T : Nat) by have := HGM.out.2.2.2.2.2; omega)
            go_wp2_with fail
            go_meet
            case rel => exact ⟨congrArg (Value.int .i64) hTe.out, rfl⟩
        case rest =>
        obtain ⟨rfl, rfl⟩ := hcut
        obtain ⟨wb, hwb⟩ : ∃ wb, wb = wc := ⟨_, rfl⟩
        rw [← hwb] at k0 k1 k2 k3 p2 p3 HFF ⊢
        clear hwb
        go_upto_region 19 with fail
        obtain ⟨wb1, hwb1⟩ : ∃ x, x = wb.alloc (.cells #[.int .i64 a, .int .i64 r, .int .i64 z, .slice A1 L.length c1, .int .i64 0, .int .i64 0, .int .u32 0, .int .u32 0, .int .i64 0, .string ⟨#[]⟩, .slice none 0 0, .slice none 0 0, .bool false] 50) := ⟨_, rfl⟩
        have k0 : wb1.cell? ⟨w.heap.size, 0, none⟩ = some (.int .i64 a) := by rw [hwb1]; exact al_cell k0
        have k1 : wb1.cell? ⟨w.heap.size, 1, none⟩ = some (.int .i64 r) := by rw [hwb1]; exact al_cell k1
        have k2 : wb1.cell? ⟨w.heap.size, 2, none⟩ = some (.int .i64 z) := by rw [hwb1]; exact al_cell k2
        have hs1 : wb1.heap.size = wb.heap.size + 1 := by rw [hwb1]; simp
        rw [← hwb1]
        have HWB1 := Lib.hid hwb1
        clear hwb1
        go_wp2_with fail
        have HKP1 := Lib.hid p3w1
        have hbnd := cap_bounds r HGM.out.2.1
        have hcp := capN_of HGM.out.2.1
        obtain ⟨hgm, hcap, hzz, hrp, hzs, hTT⟩ := HGM.out
        have hSW : (sd0 a pl sz L).Wf := sd0_wf (by omega) (by rw [hrp] at hcp; simpa using hcp) (by omega) (fun mm hmm => by have := hgm mm hmm; unfold goodM at this; omega) (by have := HF.out.1; omega)
        have hRW : (rv0 a pl sz T).Wf := rv0_wf (by omega) (by rw [hrp] at hcp; simpa using hcp) (by omega) (by omega)
        have HPX := Lib.hid (px_new (w0 := w1) (pl := pl) (sz := sz) (T := T) (c1 := c1) (by have := HS1.out; have := six_of HG.out; omega) (HG.out.below (six_of HG.out) HB1.out) HI2.out ⟨HM2.out.ltg, HM2.out.row.lt⟩ HSA.out HB3'.out ⟨HI3.out.1, HI3.out.2.1⟩ HB2.out HRA.out HB4'.out HC4.out hSW hRW (HB5'.out.trans (HB56.out.mono HB5'.out.size)) ⟨HB5'.out.size, by have := HS6.out; omega⟩ HFF.out.2.2.2.2 HFF.out.2.2.1 (by omega) HFF.out.1 ⟨HFF.out.2.1.1, by have := HFF.out.2.1.2; omega⟩ HFF.out.2.2.2.1 ((HM.out.keep HB1.out).up HB1.out.size) _ _ rfl rfl)
        rw [HWB1.out, hrp, hzs]
        clear hgm hcap hzz hTT hSW hRW hcp hbnd
        go_loopw [15, 11] (fun iv lv wr => PlR w1 g B C wb.heap.size (wb.heap.size + 1) iv lv wr) (fun iv _ _ => 250 - (intOf iv).toNat)
        case atStart => exact ⟨0, _, _, f, _, _, _, 80, _, c, by omega, rfl, rfl, HPX.out⟩
        case round =>
          obtain ⟨k, S, R, f, DA, DB, U, cU, m, c, hk, rfl, rfl, hP⟩ := hrel
          have p3 := kept HKP1.out hP.bel
          by_cases hc : k < n2 ∧ k < 250
          · obtain ⟨hc1, hc2⟩ := hc
            obtain ⟨A2b, A2o, rfl⟩ : ∃ x o, A2 = some ⟨x, o, none⟩ := HA2.out.head (i := k) hc1
            have cp := kept (kept (HA2.out.cell (i := k) hc1) HB1.out) hP.bel
            obtain ⟨y, hy⟩ : ∃ y, y = q k := ⟨_, rfl⟩
            rw [← hy] at cp
            clear hy
            have hc1' : (k : Int) < n2 := by omega
            have hc2' : (k : Int) < 250 := by omega
            have hk0 : (0 : Int) ≤ k := by omega
            obtain ⟨x, hx⟩ : ∃ x, x = bits .and .u8 y 1 := ⟨_, rfl⟩
            have hxe := hx.symm
            have k12 := hP.ba.all.2.2.2.2.2.2.2.2.2.2.2.2
            clear hx
            go_upto_region 23 with fail
            go_cut [176] (fun bv wx => bv = .bool (decide (x = 0 ∧ DA.ov = false)) ∧ wr = wx)
            case first => as_aux_lemma =>
              by_cases h0 : x = 0
              · cases hv : DA.ov
                · rw [hv] at k12
                  go_wp2_with fail
                  go_meet
                  case rel => exact ⟨congrArg Value.bool (decide_eq_true (show x = 0 ∧ DA.ov = false from ⟨h0, hv⟩)).symm, rfl⟩
                · rw [hv] at k12
                  go_wp2_with fail
                  go_meet
                  case rel => exact ⟨congrArg Value.bool (decide_eq_false (show ¬ (x = 0 ∧ DA.ov = false) from fun h => by have h2 := h.2; rw [hv] at h2; cases h2)).symm, rfl⟩
              · have h0b : (x == 0) = false := by simpa using h0
                go_wp2_with fail
                go_meet
                case rel => exact ⟨congrArg Value.bool (decide_eq_false (show ¬ (x = 0 ∧ DA.ov = false) from fun h => h0 h.1)).symm, rfl⟩
            case rest =>
            obtain ⟨rfl, rfl⟩ := hcut
            obtain ⟨zc, hzc⟩ : ∃ z : Bool, z = decide (x = 0 ∧ DA.ov = false) := ⟨_, rfl⟩
            have HZC := Lib.hid hzc
            rw [← hzc]
            clear hzc k12
            go_upto_if 176 with fail
            go_cut [11] (fun lv wx => PlM w1 g B C wb.heap.size (wb.heap.size + 1) k lv wx)
            case first =>
              cases zc with
              | true =>
                repeat (rename_i zz; revert zz)
                try revert A1
                try revert A2
                try revert A2b
                try revert A2o
                try revert B
                try revert C
                try revert D
                try revert D'
                try revert DA
                try revert DA'
                try revert DB
                try revert DB'
                try revert E
                try revert HA2
                try revert HAWK
                try revert HB1
                try revert HB2
                try revert HB3
                try revert HB3'
                try revert HB4
                try revert HB4'
                try revert HB5
                try revert HB5'
                try revert HB56
                try revert HB7
                try revert HB8
                try revert HBE
                try revert HBW
                try revert HC4
                try revert HC7
                try revert HC8
                try revert HC9
                try revert HD6
                try revert HDC
                try revert HDD
                try revert HF
                try revert HF6
                try revert HFF
                try revert HG
                try revert HGM
                try revert HGT
                try revert HI2
                try revert HI3
                try revert HKP
                try revert HKP1
                try revert HM
                try revert HM2
                try revert HM8
                try revert HM9
                try revert HMM
                try revert HNG
                try revert HNR
                try revert HNS
                try revert HOUT
                try revert HOV
                try revert HOV'
                try revert HP
                try revert HP7
                try revert HP8
                try revert HPX
                try revert HPZ
                try revert HR
                try revert HRA
                try revert HS
                try revert HS1
                try revert HS2
                try revert HS6
                try revert HSA
                try revert HSM
                try revert HSN
                try revert HST
                try revert HTX
                try revert HU6
                try revert HU7
                try revert HWB1
                try revert HWD
                try revert HX
                try revert HZ
                try revert HZC
                try revert K10
                try revert K11
                try revert L
                try revert LB
                try revert P
                try revert P1
                try revert P2
                try revert P3
                try revert R
                try revert R'
                try revert S
                try revert S'
                try revert T
                try revert U
                try revert U'
                try revert U32
                try revert V
                try revert W
                try revert W6
                try revert W7
                try revert W8
                try revert W9
                try revert a
                try revert b
                try revert c
                try revert c'
                try revert c0
                try revert c1
                try revert c1'
                try revert c2
                try revert c8
                try revert cU
                try revert cU'
                try revert d1
                try revert d3
                try revert d5
                try revert dd
                try revert e
                try revert e1
                try revert e10
                try revert e11
                try revert e2
                try revert e3
                try revert f
                try revert f'
                try revert f0
                try revert f1
                try revert g
                try revert h
                try revert h0
                try revert h0b
                try revert h1
                try revert h1'
                try revert h1b
                try revert h2
                try revert h2'
                try revert h3
                try revert h4
                try revert h5
                try revert hA
                try revert hA2
                try revert hB
                try revert hB1
                try revert hB2
                try revert hB3
                try revert hB4
                try revert hB5
                try revert hB56
                try revert hB6
                try revert hC
                try revert hC7
                try revert hC8
                try revert hCC
                try revert hE0
                try revert hE8
                try revert hE9
                try revert hF6
                try revert hG
                try revert hI2
                try revert hL'
                try revert hLB
                try revert hM
                try revert hM2
                try revert hM6
                try revert hM7
                try revert hM8
                try revert hM9
                try revert hO1
                try revert hO3
                try revert hO5
                try revert hP
                try revert hP'
                try revert hP8
                try revert hRA
                try revert hRW
                try revert hS'
                try revert hS1
                try revert hSA
                try revert hSW
                try revert hT
                try revert hTT
                try revert hTe
                try revert hU'
                try revert hU7
                try revert hW6
                try revert hb0
                try revert hb1
                try revert hb1'
                try revert hb2
                try revert hb2'
                try revert hb3
                try revert hb4
                try revert hb5
                try revert hb6
                try revert hbb
                try revert hbl
                try revert hbnd
                try revert hc
                try revert hc1
                try revert hc1'
                try revert hc2
                try revert hc2'
                try revert hcap
                try revert hch
                try revert hcp
                try revert hcut
                try revert hd
                try revert hdd
                try revert he
                try revert hf
                try revert hg
                try revert hg2
                try revert hgb
                try revert hgl
                try revert hgm
                try revert hh
                try revert hhi
                try revert hi
                try revert hi0
                try revert hi1
                try revert hi2
                try revert hi3
                try revert hi4
                try revert hi80
                try revert hin
                try revert hj
                try revert hk
                try revert hk0
                try revert hlow
                try revert hm
                try revert hmk
                try revert hmm
                try revert hn1
                try revert hn2
                try revert hn3
                try revert hn4
                try revert hnG
                try revert hnS
                try revert hnb
                try revert hne
                try revert hov
                try revert hov'
                try revert hpl
                try revert hr
                try revert hrel
                try revert hrp
                try revert hs
                try revert hs1
                try revert hs6
                try revert hsz
                try revert hsz5
                try revert ht
                try revert ht0
                try revert ht2
                try revert hu
                try revert hv
                try revert hw1
                try revert hw6
                try revert hw7
                try revert hwb
                try revert hwb1
                try revert hx
                try revert hx6
                try revert hxe
                try revert hy
                try revert hz
                try revert hz3
                try revert hz4
                try revert hz5
                try revert hz6
                try revert hzc
                try revert hzs
                try revert hzz
                try revert i
                try revert i64
                try revert j
                try revert k
                try revert k0
                try revert k1
                try revert k10
                try revert k11
                try revert k12
                try revert k12'
                try revert k2
                try revert k3
                try revert k4
                try revert k5
                try revert k6
                try revert k7
                try revert k8
                try revert k9
                try revert m
                try revert m'
                try revert m1
                try revert m2
                try revert m3
                try revert m8
                try revert n
                try revert n2
                try revert nG
                try revert nS
                try revert o
                try revert out
                try revert p
                try revert p0
                try revert p1
                try revert p2
                try revert p3
                try revert p3w1
                try revert pl
                try revert q
                try revert q1
                try revert q2
                try revert q3
                try revert r
                try revert sz
                try revert t
                try revert t2
                try revert u
                try revert u32
                try revert u8
                try revert w
                try revert w'
                try revert w0
                try revert w1
                try revert w1'
                try revert w2
                try revert w3
                try revert w4
                try revert w5
                try revert w6
                try revert w7
                try revert w8
                try revert wb
                try revert wb1
                try revert wc
                try revert wr
                try revert wx
                try revert x
                try revert x1
                try revert x2
                try revert x3
                try revert x4
                try revert x5
                try revert x6
                try revert y
                try revert z
                try revert zb
                try revert zc
                try revert u0
                try revert u1
                try revert u2
                try revert u3
                try revert u4
                try revert u5
                try revert u6
                try revert u7
                try revert u8
                try revert u9
                try revert u10
                try revert u11
                try revert u12
                try revert u13
                try revert u14
                try revert u15
                try revert u16
                try revert u17
                try revert u18
                try revert u19
                try revert u20
                try revert u21
                try revert u22
                try revert u23
                try revert u24
                try revert u25
                try revert u26
                try revert u27
                try revert u28
                try revert u29
                try revert u30
                try revert u31
                try revert u32
                try revert u33
                try revert u34
                try revert u35
                try revert u36
                try revert u37
                try revert u38
                try revert u39
                try revert u40
                try revert u41
                try revert u42
                try revert u43
                try revert u44
                try revert u45
                try revert u46
                try revert u47
                try revert u48
                try revert u49
                try revert u50
                try revert u51
                try revert u52
                try revert u53
                try revert u54
                try revert u55
                try revert u56
                try revert u57
                try revert u58
                try revert u59
                try revert u60
                try revert u61
                try revert u62
                try revert u63
                try revert u64
                try revert u65
                try revert u66
                try revert u67
                try revert u68
                try revert u69
                try revert u70
                try revert u71
                try revert u72
                try revert u73
                try revert u74
                try revert u75
                try revert u76
                try revert u77
                try revert u78
                try revert u79
                try revert u80
                try revert u81
                try revert u82
                try revert u83
                try revert u84
                try revert u85
                try revert u86
                try revert u87
                try revert u88
                try revert u89
                try revert u90
                try revert u91
                try revert u92
                try revert u93
                try revert u94
                try revert u95
                try revert u96
                try revert u97
                try revert u98
                try revert u99
                try revert u100
                try revert u101
                try revert u102
                try revert u103
                try revert u104
                try revert u105
                try revert u106
                try revert u107
                try revert u108
                try revert u109
                try revert u110
                try revert u111
                try revert u112
                try revert u113
                try revert u114
                try revert u115
                try revert u116
                try revert u117
                try revert u118
                try revert u119
                try revert u120
                try revert u121
                try revert u122
                try revert u123
                try revert u124
                try revert u125
                try revert u126
                try revert u127
                try revert u128
                try revert u129
                try revert u130
                try revert u131
                try revert u132
                try revert u133
                try revert u134
                try revert u135
                try revert u136
                try revert u137
                try revert u138
                try revert u139
                try revert u140
                try revert u141
                try revert u142
                try revert u143
                try revert u144
                try revert u145
                try revert u146
                try revert u147
                try revert u148
                try revert u149
                try revert u150
                try revert u151
                try revert u152
                try revert u153
                try revert u154
                try revert u155
                try revert u156
                try revert u157
                try revert u158
                try revert u159
                try revert u160
                try revert u161
                try revert u162
                try revert u163
                try revert u164
                try revert u165
                try revert u166
                try revert u167
                try revert u168
                try revert u169
                try revert u170
                try revert u171
                try revert u172
                try revert u173
                try revert u174
                try revert u175
                try revert u176
                try revert u177
                try revert u178
                try revert u179
                try revert u180
                try revert u181
                try revert u182
                try revert u183
                try revert u184
                try revert u185
                try revert u186
                try revert u187
                try revert u188
                try revert u189
                try revert u190
                try revert u191
                try revert u192
                try revert u193
                try revert u194
                try revert u195
                try revert u196
                try revert u197
                try revert u198
                try revert u199
                try revert u200
                try revert u201
                try revert u202
                try revert u203
                try revert u204
                try revert u205
                try revert u206
                try revert u207
                try revert u208
                try revert u209
                try revert u210
                try revert u211
                try revert u212
                try revert u213
                try revert u214
                try revert u215
                try revert u216
                try revert u217
                try revert u218
                try revert u219
                try revert u220
                try revert u221
                try revert u222
                try revert u223
                try revert u224
                try revert u225
                try revert u226
                try revert u227
                try revert u228
                try revert u229
                try revert u230
                try revert u231
                try revert u232
                try revert u233
                try revert u234
                try revert u235
                try revert u236
                try revert u237
                try revert u238
                try revert u239
                try revert u240
                try revert u241
                try revert u242
                try revert u243
                try revert u244
                try revert u245
                try revert u246
                try revert u247
                try revert u248
                try revert u249
                try revert u250
                try revert u251
                try revert u252
                try revert u253
                try revert u254
                try revert u255
                try revert u256
                try revert u257
                try revert u258
                try revert u259
                try revert u260
                try revert u261
                try revert u262
                try revert u263
                try revert u264
                try revert u265
                try revert u266
                try revert u267
                try revert u268
                try revert u269
                try revert u270
                try revert u271
                try revert u272
                try revert u273
                try revert u274
                try revert u275
                try revert u276
                try revert u277
                try revert u278
                try revert u279
                try revert u280
                try revert u281
                try revert u282
                try revert u283
                try revert u284
                try revert u285
                try revert u286
                try revert u287
                try revert u288
                try revert u289
                try revert u290
                try revert u291
                try revert u292
                try revert u293
                try revert u294
                try revert u295
                try revert u296
                try revert u297
                try revert u298
                try revert u299
                exact HYPA.out
              | false =>
                repeat (rename_i zz; revert zz)
                try revert A1
                try revert A2
                try revert A2b
                try revert A2o
                try revert B
                try revert C
                try revert D
                try revert D'
                try revert DA
                try revert DA'
                try revert DB
                try revert DB'
                try revert E
                try revert HA2
                try revert HAWK
                try revert HB1
                try revert HB2
                try revert HB3
                try revert HB3'
                try revert HB4
                try revert HB4'
                try revert HB5
                try revert HB5'
                try revert HB56
                try revert HB7
                try revert HB8
                try revert HBE
                try revert HBW
                try revert HC4
                try revert HC7
                try revert HC8
                try revert HC9
                try revert HD6
                try revert HDC
                try revert HDD
                try revert HF
                try revert HF6
                try revert HFF
                try revert HG
                try revert HGM
                try revert HGT
                try revert HI2
                try revert HI3
                try revert HKP
                try revert HKP1
                try revert HM
                try revert HM2
                try revert HM8
                try revert HM9
                try revert HMM
                try revert HNG
                try revert HNR
                try revert HNS
                try revert HOUT
                try revert HOV
                try revert HOV'
                try revert HP
                try revert HP7
                try revert HP8
                try revert HPX
                try revert HPZ
                try revert HR
                try revert HRA
                try revert HS
                try revert HS1
                try revert HS2
                try revert HS6
                try revert HSA
                try revert HSM
                try revert HSN
                try revert HST
                try revert HTX
                try revert HU6
                try revert HU7
                try revert HWB1
                try revert HWD
                try revert HX
                try revert HZ
                try revert HZC
                try revert K10
                try revert K11
                try revert L
                try revert LB
                try revert P
                try revert P1
                try revert P2
                try revert P3
                try revert R
                try revert R'
                try revert S
                try revert S'
                try revert T
                try revert U
                try revert U'
                try revert U32
                try revert V
                try revert W
                try revert W6
                try revert W7
                try revert W8
                try revert W9
                try revert a
                try revert b
                try revert c
                try revert c'
                try revert c0
                try revert c1
                try revert c1'
                try revert c2
                try revert c8
                try revert cU
                try revert cU'
                try revert d1
                try revert d3
                try revert d5
                try revert dd
                try revert e
                try revert e1
                try revert e10
                try revert e11
                try revert e2
                try revert e3
                try revert f
                try revert f'
                try revert f0
                try revert f1
                try revert g
                try revert h
                try revert h0
                try revert h0b
                try revert h1
                try revert h1'
                try revert h1b
                try revert h2
                try revert h2'
                try revert h3
                try revert h4
                try revert h5
                try revert hA
                try revert hA2
                try revert hB
                try revert hB1
                try revert hB2
                try revert hB3
                try revert hB4
                try revert hB5
                try revert hB56
                try revert hB6
                try revert hC
                try revert hC7
                try revert hC8
                try revert hCC
                try revert hE0
                try revert hE8
                try revert hE9
                try revert hF6
                try revert hG
                try revert hI2
                try revert hL'
                try revert hLB
                try revert hM
                try revert hM2
                try revert hM6
                try revert hM7
                try revert hM8
                try revert hM9
                try revert hO1
                try revert hO3
                try revert hO5
                try revert hP
                try revert hP'
                try revert hP8
                try revert hRA
                try revert hRW
                try revert hS'
                try revert hS1
                try revert hSA
                try revert hSW
                try revert hT
                try revert hTT
                try revert hTe
                try revert hU'
                try revert hU7
                try revert hW6
                try revert hb0
                try revert hb1
                try revert hb1'
                try revert hb2
                try revert hb2'
                try revert hb3
                try revert hb4
                try revert hb5
                try revert hb6
                try revert hbb
                try revert hbl
                try revert hbnd
                try revert hc
                try revert hc1
                try revert hc1'
                try revert hc2
                try revert hc2'
                try revert hcap
                try revert hch
                try revert hcp
                try revert hcut
                try revert hd
                try revert hdd
                try revert he
                try revert hf
                try revert hg
                try revert hg2
                try revert hgb
                try revert hgl
                try revert hgm
                try revert hh
                try revert hhi
                try revert hi
                try revert hi0
                try revert hi1
                try revert hi2
                try revert hi3
                try revert hi4
                try revert hi80
                try revert hin
                try revert hj
                try revert hk
                try revert hk0
                try revert hlow
                try revert hm
                try revert hmk
                try revert hmm
                try revert hn1
                try revert hn2
                try revert hn3
                try revert hn4
                try revert hnG
                try revert hnS
                try revert hnb
                try revert hne
                try revert hov
                try revert hov'
                try revert hpl
                try revert hr
                try revert hrel
                try revert hrp
                try revert hs
                try revert hs1
                try revert hs6
                try revert hsz
                try revert hsz5
                try revert ht
                try revert ht0
                try revert ht2
                try revert hu
                try revert hv
                try revert hw1
                try revert hw6
                try revert hw7
                try revert hwb
                try revert hwb1
                try revert hx
                try revert hx6
                try revert hxe
                try revert hy
                try revert hz
                try revert hz3
                try revert hz4
                try revert hz5
                try revert hz6
                try revert hzc
                try revert hzs
                try revert hzz
                try revert i
                try revert i64
                try revert j
                try revert k
                try revert k0
                try revert k1
                try revert k10
                try revert k11
                try revert k12
                try revert k12'
                try revert k2
                try revert k3
                try revert k4
                try revert k5
                try revert k6
                try revert k7
                try revert k8
                try revert k9
                try revert m
                try revert m'
                try revert m1
                try revert m2
                try revert m3
                try revert m8
                try revert n
                try revert n2
                try revert nG
                try revert nS
                try revert o
                try revert out
                try revert p
                try revert p0
                try revert p1
                try revert p2
                try revert p3
                try revert p3w1
                try revert pl
                try revert q
                try revert q1
                try revert q2
                try revert q3
                try revert r
                try revert sz
                try revert t
                try revert t2
                try revert u
                try revert u32
                try revert u8
                try revert w
                try revert w'
                try revert w0
                try revert w1
                try revert w1'
                try revert w2
                try revert w3
                try revert w4
                try revert w5
                try revert w6
                try revert w7
                try revert w8
                try revert wb
                try revert wb1
                try revert wc
                try revert wr
                try revert wx
                try revert x
                try revert x1
                try revert x2
                try revert x3
                try revert x4
                try revert x5
                try revert x6
                try revert y
                try revert z
                try revert zb
                try revert zc
                try revert u0
                try revert u1
                try revert u2
                try revert u3
                try revert u4
                try revert u5
                try revert u6
                try revert u7
                try revert u8
                try revert u9
                try revert u10
                try revert u11
                try revert u12
                try revert u13
                try revert u14
                try revert u15
                try revert u16
                try revert u17
                try revert u18
                try revert u19
                try revert u20
                try revert u21
                try revert u22
                try revert u23
                try revert u24
                try revert u25
                try revert u26
                try revert u27
                try revert u28
                try revert u29
                try revert u30
                try revert u31
                try revert u32
                try revert u33
                try revert u34
                try revert u35
                try revert u36
                try revert u37
                try revert u38
                try revert u39
                try revert u40
                try revert u41
                try revert u42
                try revert u43
                try revert u44
                try revert u45
                try revert u46
                try revert u47
                try revert u48
                try revert u49
                try revert u50
                try revert u51
                try revert u52
                try revert u53
                try revert u54
                try revert u55
                try revert u56
                try revert u57
                try revert u58
                try revert u59
                try revert u60
                try revert u61
                try revert u62
                try revert u63
                try revert u64
                try revert u65
                try revert u66
                try revert u67
                try revert u68
                try revert u69
                try revert u70
                try revert u71
                try revert u72
                try revert u73
                try revert u74
                try revert u75
                try revert u76
                try revert u77
                try revert u78
                try revert u79
                try revert u80
                try revert u81
                try revert u82
                try revert u83
                try revert u84
                try revert u85
                try revert u86
                try revert u87
                try revert u88
                try revert u89
                try revert u90
                try revert u91
                try revert u92
                try revert u93
                try revert u94
                try revert u95
                try revert u96
                try revert u97
                try revert u98
                try revert u99
                try revert u100
                try revert u101
                try revert u102
                try revert u103
                try revert u104
                try revert u105
                try revert u106
                try revert u107
                try revert u108
                try revert u109
                try revert u110
                try revert u111
                try revert u112
                try revert u113
                try revert u114
                try revert u115
                try revert u116
                try revert u117
                try revert u118
                try revert u119
                try revert u120
                try revert u121
                try revert u122
                try revert u123
                try revert u124
                try revert u125
                try revert u126
                try revert u127
                try revert u128
                try revert u129
                try revert u130
                try revert u131
                try revert u132
                try revert u133
                try revert u134
                try revert u135
                try revert u136
                try revert u137
                try revert u138
                try revert u139
                try revert u140
                try revert u141
                try revert u142
                try revert u143
                try revert u144
                try revert u145
                try revert u146
                try revert u147
                try revert u148
                try revert u149
                try revert u150
                try revert u151
                try revert u152
                try revert u153
                try revert u154
                try revert u155
                try revert u156
                try revert u157
                try revert u158
                try revert u159
                try revert u160
                try revert u161
                try revert u162
                try revert u163
                try revert u164
                try revert u165
                try revert u166
                try revert u167
                try revert u168
                try revert u169
                try revert u170
                try revert u171
                try revert u172
                try revert u173
                try revert u174
                try revert u175
                try revert u176
                try revert u177
                try revert u178
                try revert u179
                try revert u180
                try revert u181
                try revert u182
                try revert u183
                try revert u184
                try revert u185
                try revert u186
                try revert u187
                try revert u188
                try revert u189
                try revert u190
                try revert u191
                try revert u192
                try revert u193
                try revert u194
                try revert u195
                try revert u196
                try revert u197
                try revert u198
                try revert u199
                try revert u200
                try revert u201
                try revert u202
                try revert u203
                try revert u204
                try revert u205
                try revert u206
                try revert u207
                try revert u208
                try revert u209
                try revert u210
                try revert u211
                try revert u212
                try revert u213
                try revert u214
                try revert u215
                try revert u216
                try revert u217
                try revert u218
                try revert u219
                try revert u220
                try revert u221
                try revert u222
                try revert u223
                try revert u224
                try revert u225
                try revert u226
                try revert u227
                try revert u228
                try revert u229
                try revert u230
                try revert u231
                try revert u232
                try revert u233
                try revert u234
                try revert u235
                try revert u236
                try revert u237
                try revert u238
                try revert u239
                try revert u240
                try revert u241
                try revert u242
                try revert u243
                try revert u244
                try revert u245
                try revert u246
                try revert u247
                try revert u248
                try revert u249
                try revert u250
                try revert u251
                try revert u252
                try revert u253
                try revert u254
                try revert u255
                try revert u256
                try revert u257
                try revert u258
                try revert u259
                try revert u260
                try revert u261
                try revert u262
                try revert u263
                try revert u264
                try revert u265
                try revert u266
                try revert u267
                try revert u268
                try revert u269
                try revert u270
                try revert u271
                try revert u272
                try revert u273
                try revert u274
                try revert u275
                try revert u276
                try revert u277
                try revert u278
                try revert u279
                try revert u280
                try revert u281
                try revert u282
                try revert u283
                try revert u284
                try revert u285
                try revert u286
                try revert u287
                try revert u288
                try revert u289
                try revert u290
                try revert u291
                try revert u292
                try revert u293
                try revert u294
                try revert u295
                try revert u296
                try revert u297
                try revert u298
                try revert u299
                exact HYPB.out
            case rest =>
            repeat (rename_i zz; revert zz)
            try revert A1
            try revert A2
            try revert A2b
            try revert A2o
            try revert B
            try revert C
            try revert D
            try revert D'
            try revert DA
            try revert DA'
            try revert DB
            try revert DB'
            try revert E
            try revert HA2
            try revert HAWK
            try revert HB1
            try revert HB2
            try revert HB3
            try revert HB3'
            try revert HB4
            try revert HB4'
            try revert HB5
            try revert HB5'
            try revert HB56
            try revert HB7
            try revert HB8
            try revert HBE
            try revert HBW
            try revert HC4
            try revert HC7
            try revert HC8
            try revert HC9
            try revert HD6
            try revert HDC
            try revert HDD
            try revert HF
            try revert HF6
            try revert HFF
            try revert HG
            try revert HGM
            try revert HGT
            try revert HI2
            try revert HI3
            try revert HKP
            try revert HKP1
            try revert HM
            try revert HM2
            try revert HM8
            try revert HM9
            try revert HMM
            try revert HNG
            try revert HNR
            try revert HNS
            try revert HOUT
            try revert HOV
            try revert HOV'
            try revert HP
            try revert HP7
            try revert HP8
            try revert HPX
            try revert HPZ
            try revert HR
            try revert HRA
            try revert HS
            try revert HS1
            try revert HS2
            try revert HS6
            try revert HSA
            try revert HSM
            try revert HSN
            try revert HST
            try revert HTX
            try revert HU6
            try revert HU7
            try revert HWB1
            try revert HWD
            try revert HX
            try revert HZ
            try revert HZC
            try revert K10
            try revert K11
            try revert L
            try revert LB
            try revert P
            try revert P1
            try revert P2
            try revert P3
            try revert R
            try revert R'
            try revert S
            try revert S'
            try revert T
            try revert U
            try revert U'
            try revert U32
            try revert V
            try revert W
            try revert W6
            try revert W7
            try revert W8
            try revert W9
            try revert a
            try revert b
            try revert c
            try revert c'
            try revert c0
            try revert c1
            try revert c1'
            try revert c2
            try revert c8
            try revert cU
            try revert cU'
            try revert d1
            try revert d3
            try revert d5
            try revert dd
            try revert e
            try revert e1
            try revert e10
            try revert e11
            try revert e2
            try revert e3
            try revert f
            try revert f'
            try revert f0
            try revert f1
            try revert g
            try revert h
            try revert h0
            try revert h0b
            try revert h1
            try revert h1'
            try revert h1b
            try revert h2
            try revert h2'
            try revert h3
            try revert h4
            try revert h5
            try revert hA
            try revert hA2
            try revert hB
            try revert hB1
            try revert hB2
            try revert hB3
            try revert hB4
            try revert hB5
            try revert hB56
            try revert hB6
            try revert hC
            try revert hC7
            try revert hC8
            try revert hCC
            try revert hE0
            try revert hE8
            try revert hE9
            try revert hF6
            try revert hG
            try revert hI2
            try revert hL'
            try revert hLB
            try revert hM
            try revert hM2
            try revert hM6
            try revert hM7
            try revert hM8
            try revert hM9
            try revert hO1
            try revert hO3
            try revert hO5
            try revert hP
            try revert hP'
            try revert hP8
            try revert hRA
            try revert hRW
            try revert hS'
            try revert hS1
            try revert hSA
            try revert hSW
            try revert hT
            try revert hTT
            try revert hTe
            try revert hU'
            try revert hU7
            try revert hW6
            try revert hb0
            try revert hb1
            try revert hb1'
            try revert hb2
            try revert hb2'
            try revert hb3
            try revert hb4
            try revert hb5
            try revert hb6
            try revert hbb
            try revert hbl
            try revert hbnd
            try revert hc
            try revert hc1
            try revert hc1'
            try revert hc2
            try revert hc2'
            try revert hcap
            try revert hch
            try revert hcp
            try revert hcut
            try revert hd
            try revert hdd
            try revert he
            try revert hf
            try revert hg
            try revert hg2
            try revert hgb
            try revert hgl
            try revert hgm
            try revert hh
            try revert hhi
            try revert hi
            try revert hi0
            try revert hi1
            try revert hi2
            try revert hi3
            try revert hi4
            try revert hi80
            try revert hin
            try revert hj
            try revert hk
            try revert hk0
            try revert hlow
            try revert hm
            try revert hmk
            try revert hmm
            try revert hn1
            try revert hn2
            try revert hn3
            try revert hn4
            try revert hnG
            try revert hnS
            try revert hnb
            try revert hne
            try revert hov
            try revert hov'
            try revert hpl
            try revert hr
            try revert hrel
            try revert hrp
            try revert hs
            try revert hs1
            try revert hs6
            try revert hsz
            try revert hsz5
            try revert ht
            try revert ht0
            try revert ht2
            try revert hu
            try revert hv
            try revert hw1
            try revert hw6
            try revert hw7
            try revert hwb
            try revert hwb1
            try revert hx
            try revert hx6
            try revert hxe
            try revert hy
            try revert hz
            try revert hz3
            try revert hz4
            try revert hz5
            try revert hz6
            try revert hzc
            try revert hzs
            try revert hzz
            try revert i
            try revert i64
            try revert j
            try revert k
            try revert k0
            try revert k1
            try revert k10
            try revert k11
            try revert k12
            try revert k12'
            try revert k2
            try revert k3
            try revert k4
            try revert k5
            try revert k6
            try revert k7
            try revert k8
            try revert k9
            try revert m
            try revert m'
            try revert m1
            try revert m2
            try revert m3
            try revert m8
            try revert n
            try revert n2
            try revert nG
            try revert nS
            try revert o
            try revert out
            try revert p
            try revert p0
            try revert p1
            try revert p2
            try revert p3
            try revert p3w1
            try revert pl
            try revert q
            try revert q1
            try revert q2
            try revert q3
            try revert r
            try revert sz
            try revert t
            try revert t2
            try revert u
            try revert u32
            try revert u8
            try revert w
            try revert w'
            try revert w0
            try revert w1
            try revert w1'
            try revert w2
            try revert w3
            try revert w4
            try revert w5
            try revert w6
            try revert w7
            try revert w8
            try revert wb
            try revert wb1
            try revert wc
            try revert wr
            try revert wx
            try revert x
            try revert x1
            try revert x2
            try revert x3
            try revert x4
            try revert x5
            try revert x6
            try revert y
            try revert z
            try revert zb
            try revert zc
            try revert u0
            try revert u1
            try revert u2
            try revert u3
            try revert u4
            try revert u5
            try revert u6
            try revert u7
            try revert u8
            try revert u9
            try revert u10
            try revert u11
            try revert u12
            try revert u13
            try revert u14
            try revert u15
            try revert u16
            try revert u17
            try revert u18
            try revert u19
            try revert u20
            try revert u21
            try revert u22
            try revert u23
            try revert u24
            try revert u25
            try revert u26
            try revert u27
            try revert u28
            try revert u29
            try revert u30
            try revert u31
            try revert u32
            try revert u33
            try revert u34
            try revert u35
            try revert u36
            try revert u37
            try revert u38
            try revert u39
            try revert u40
            try revert u41
            try revert u42
            try revert u43
            try revert u44
            try revert u45
            try revert u46
            try revert u47
            try revert u48
            try revert u49
            try revert u50
            try revert u51
            try revert u52
            try revert u53
            try revert u54
            try revert u55
            try revert u56
            try revert u57
            try revert u58
            try revert u59
            try revert u60
            try revert u61
            try revert u62
            try revert u63
            try revert u64
            try revert u65
            try revert u66
            try revert u67
            try revert u68
            try revert u69
            try revert u70
            try revert u71
            try revert u72
            try revert u73
            try revert u74
            try revert u75
            try revert u76
            try revert u77
            try revert u78
            try revert u79
            try revert u80
            try revert u81
            try revert u82
            try revert u83
            try revert u84
            try revert u85
            try revert u86
            try revert u87
            try revert u88
            try revert u89
            try revert u90
            try revert u91
            try revert u92
            try revert u93
            try revert u94
            try revert u95
            try revert u96
            try revert u97
            try revert u98
            try revert u99
            try revert u100
            try revert u101
            try revert u102
            try revert u103
            try revert u104
            try revert u105
            try revert u106
            try revert u107
            try revert u108
            try revert u109
            try revert u110
            try revert u111
            try revert u112
            try revert u113
            try revert u114
            try revert u115
            try revert u116
            try revert u117
            try revert u118
            try revert u119
            try revert u120
            try revert u121
            try revert u122
            try revert u123
            try revert u124
            try revert u125
            try revert u126
            try revert u127
            try revert u128
            try revert u129
            try revert u130
            try revert u131
            try revert u132
            try revert u133
            try revert u134
            try revert u135
            try revert u136
            try revert u137
            try revert u138
            try revert u139
            try revert u140
            try revert u141
            try revert u142
            try revert u143
            try revert u144
            try revert u145
            try revert u146
            try revert u147
            try revert u148
            try revert u149
            try revert u150
            try revert u151
            try revert u152
            try revert u153
            try revert u154
            try revert u155
            try revert u156
            try revert u157
            try revert u158
            try revert u159
            try revert u160
            try revert u161
            try revert u162
            try revert u163
            try revert u164
            try revert u165
            try revert u166
            try revert u167
            try revert u168
            try revert u169
            try revert u170
            try revert u171
            try revert u172
            try revert u173
            try revert u174
            try revert u175
            try revert u176
            try revert u177
            try revert u178
            try revert u179
            try revert u180
            try revert u181
            try revert u182
            try revert u183
            try revert u184
            try revert u185
            try revert u186
            try revert u187
            try revert u188
            try revert u189
            try revert u190
            try revert u191
            try revert u192
            try revert u193
            try revert u194
            try revert u195
            try revert u196
            try revert u197
            try revert u198
            try revert u199
            try revert u200
            try revert u201
            try revert u202
            try revert u203
            try revert u204
            try revert u205
            try revert u206
            try revert u207
            try revert u208
            try revert u209
            try revert u210
            try revert u211
            try revert u212
            try revert u213
            try revert u214
            try revert u215
            try revert u216
            try revert u217
            try revert u218
            try revert u219
            try revert u220
            try revert u221
            try revert u222
            try revert u223
            try revert u224
            try revert u225
            try revert u226
            try revert u227
            try revert u228
            try revert u229
            try revert u230
            try revert u231
            try revert u232
            try revert u233
            try revert u234
            try revert u235
            try revert u236
            try revert u237
            try revert u238
            try revert u239
            try revert u240
            try revert u241
            try revert u242
            try revert u243
            try revert u244
            try revert u245
            try revert u246
            try revert u247
            try revert u248
            try revert u249
            try revert u250
            try revert u251
            try revert u252
            try revert u253
            try revert u254
            try revert u255
            try revert u256
            try revert u257
            try revert u258
            try revert u259
            try revert u260
            try revert u261
            try revert u262
            try revert u263
            try revert u264
            try revert u265
            try revert u266
            try revert u267
            try revert u268
            try revert u269
            try revert u270
            try revert u271
            try revert u272
            try revert u273
            try revert u274
            try revert u275
            try revert u276
            try revert u277
            try revert u278
            try revert u279
            try revert u280
            try revert u281
            try revert u282
            try revert u283
            try revert u284
            try revert u285
            try revert u286
            try revert u287
            try revert u288
            try revert u289
            try revert u290
            try revert u291
            try revert u292
            try revert u293
            try revert u294
            try revert u295
            try revert u296
            try revert u297
            try revert u298
            try revert u299
            exact HYPC.out
          · have HBE := Lib.hid (HB1.out.trans (hP.bel.mono HB1.out.size))
            by_cases h1 : k < n2
            · have h1' : (k : Int) < n2 := by omega
              have h2' : ¬ ((k : Int) < 250) := by omega
              clear hP
              go_wp2_with fail
              go_ret
              exact ⟨rfl, HBE.out⟩
            · have h1' : ¬ ((k : Int) < n2) := by omega
              clear hP
              go_wp2_with fail
              go_ret
              exact ⟨rfl, HBE.out⟩

      · as_aux_lemma =>
        clear HYPA HYPB HYPC
        have HNS := Lib.hid (news_bad a r z L.length c1 A1 L w2 HS2.out rfl (by have := HF.out.1; omega) hcap hz hg)
        clear hg hcap hz hnb hpl hsz hT hE0
        with_reducible refine HNS.out.mono ?_
        rintro e w3 ⟨rfl, hB3⟩
        have k0 := kept k0 hB3
        have k1 := kept k1 hB3
        have k2 := kept k2 hB3
        have k3 := kept k3 hB3
        have p0 := kept p0 hB3
        have p1 := kept p1 hB3
        have p2 := kept p2 hB3
        have p3 := kept p3 hB3
        have HB3 := Lib.hid (HBW.out.trans (hB3.mono HBW.out.size))
        clear hB3
        go_wp2_with fail
        with_reducible refine (HNR.out _).mono ?_
        rintro e w4 ⟨C, rfl, hRA, hC, hB4⟩
        have HB4 := Lib.hid (HB3.out.trans (hB4.mono HB3.out.size))
        clear hRA hC hB4
        go_wp2_with fail
        with_reducible refine (awake_any w4 (HG.out.below (six_of HG.out) HB4.out)).mono ?_
        rintro e w5 ⟨rfl, hB5⟩
        have HB5 := Lib.hid (HB4.out.trans (hB5.mono HB4.out.size))
        clear hB5
        go_wp2_with fail
        go_ret
        exact ⟨rfl, HB5.out⟩
    · as_aux_lemma =>
      clear HYPA HYPB HYPC
      have HNS := Lib.hid (news_words a r z (.slice A1 L.length c1) w2 hE0)
      have HNR := Lib.hid (fun W => newr_words a r z t W hE0)
      have hb0 : (wordsE r z == 0) = false := by simpa using hE0
      have hb1' : (wordsE r z != 0) = true := by simpa using hE0
      generalize wordsE r z = E at *
      with_reducible refine HNS.out.mono ?_
      rintro e w3 ⟨rfl, rfl⟩
      go_wp2_with fail
      with_reducible refine (HNR.out _).mono ?_
      rintro e w4 ⟨rfl, rfl⟩
      go_wp2_with fail
      with_reducible refine (awake_any w2 (HG.out.below (six_of HG.out) HBW.out)).mono ?_
      rintro e w5 ⟨rfl, hB5⟩
      have HB5 := Lib.hid (HBW.out.trans (hB5.mono HBW.out.size))
      clear hB5
      go_wp2_with fail
      go_ret
      exact ⟨rfl, HB5.out⟩⟩
end Go.Proofs.YtnmobalgghggnaaDoor
