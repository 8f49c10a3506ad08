/-
  What the chapter's examples fix, walked.
-/
import Derived.Test.YtagfhlnedaagbaaAwkW
namespace Go.Proofs.Ytagfhlnedaagbaa
open Go.RowKit

theorem ints_new (w : World) (l : List Int) : Ints (w.alloc (.cells (l.map nV).toArray 3)) (some ⟨w.heap.size, 0, none⟩) l := fun i hi => ⟨_, 0, rfl, by
  rw [Nat.zero_add]
  refine al_new _ _ _ i _ rfl ?_
  rw [List.getElem?_toArray, List.getElem?_map, getD_of hi]
  rfl⟩
set_option maxHeartbeats 4000000 in
theorem awake_any (w : World) : Calls Try.prog 9 #[] w fun e w' => e = .returned (.bool true) ∧ Below w.heap.size w w' := by
  have hnew := new_any w
  go_enter Try.func9, Try.ntmps9
  go_wp2_with fail
  refine hnew.mono ?_
  rintro e w1 ⟨rfl, hL, hB⟩
  have L0 := Lib.hid (LB.new hL (by omega) (Nat.le_refl _) hB)
  obtain ⟨g, hg⟩ : ∃ g, g = w.heap.size + 1 := ⟨_, rfl⟩
  rw [← hg] at L0 ⊢
  have hgb := hg
  clear hL hB hg hgb
  have HC1 := Lib.hid (put_any 1 5 (-1) _ L0.out.ln n1.1 n1.2)
  go_wp2_with fail
  with_reducible refine HC1.out.mono ?_
  rintro e w2 ⟨he, hP⟩
  rw [f1] at he
  obtain rfl := he
  obtain ⟨v1, hL, _⟩ := L0.out.step hP
  have L1 : Hid (LB w.heap.size w w2 g w.heap.size v1 S1) := hL
  clear hP hL HC1 L0
  have HC2 := Lib.hid (put_any 2 9 20 _ L1.out.ln n2.1 n2.2)
  go_wp2_with fail
  with_reducible refine HC2.out.mono ?_
  rintro e w3 ⟨he, hP⟩
  rw [f2] at he
  obtain rfl := he
  obtain ⟨v2, hL, _⟩ := L1.out.step hP
  have L2 : Hid (LB w.heap.size w w3 g w.heap.size v2 S2) := hL
  clear hP hL HC2 L1
  have HC3 := Lib.hid (put_any 3 5 10 _ L2.out.ln n3.1 n3.2)
  go_wp2_with fail
  with_reducible refine HC3.out.mono ?_
  rintro e w4 ⟨he, hP⟩
  rw [f3] at he
  obtain rfl := he
  obtain ⟨v3, hL, _⟩ := L2.out.step hP
  have L3 : Hid (LB w.heap.size w w4 g w.heap.size v3 S3) := hL
  clear hP hL HC3 L2
  have HC4 := Lib.hid (put_any 4 9 10 _ L3.out.ln n4.1 n4.2)
  go_wp2_with fail
  with_reducible refine HC4.out.mono ?_
  rintro e w5 ⟨he, hP⟩
  rw [f4] at he
  obtain rfl := he
  obtain ⟨v4, hL, _⟩ := L3.out.step hP
  have L4 : Hid (LB w.heap.size w w5 g w.heap.size v4 S4) := hL
  clear hP hL HC4 L3
  have HC5 := Lib.hid (list_any _ L4.out.ln (Nat.le_trans n5.1 (by omega)))
  go_wp2_with fail
  with_reducible refine HC5.out.mono ?_
  rintro e w6 ⟨d1, rfl, hN1, hB1, hf1⟩
  rw [f5] at hN1
  obtain ⟨A1, c1, rfl, _⟩ := hN1.len
  have D1 := Lib.hid hN1
  have L5 := Lib.hid (L4.out.keep hB1)
  have D1F := Lib.hid (show ∀ x, (Value.slice A1 [2, 4, 1, 3].length c1).ownBlock = some x → ¬ Blk g w.heap.size v4 x from fun x hx hb => by have := L4.out.ln.blk_lt hb; have := hf1 x hx; omega)
  clear hN1 hB1 hf1 HC5 L4
  -- refused: it waits already
  have HC6 := Lib.hid (put_any 1 0 5 _ L5.out.ln n5.1 n5.2)
  go_wp2_with fail
  with_reducible refine HC6.out.mono ?_
  rintro e w7 ⟨he, hP⟩
  rw [f6] at he
  rw [put_same f6 (by decide)] at hP
  obtain rfl := he
  obtain ⟨v6, hL, hf⟩ := L5.out.step hP
  have L6 := Lib.hid hL
  obtain ⟨hd1, hd2⟩ := D1.out.far hf D1F.out
  have D1 := Lib.hid hd1
  have D1F := Lib.hid hd2
  clear hP hL hf hd1 hd2 HC6 L5
  -- the tick
  have HC7 := Lib.hid (exp_any 10 _ L6.out.ln n5.1)
  go_wp2_with fail
  with_reducible refine HC7.out.mono ?_
  rintro e w8 ⟨d2, he, hN2, ⟨v7, h71, h72, h73⟩, hf2⟩
  rw [f7] at he
  rw [f8] at hN2
  obtain rfl := he
  obtain ⟨hL, hf⟩ := L6.out.step' h71 h72 h73
  have L7 : Hid (LB w.heap.size w w8 g w.heap.size v7 S5) := hL
  obtain ⟨hd1, hd2⟩ := D1.out.far hf D1F.out
  have D1 := Lib.hid hd1
  have D1F := Lib.hid hd2
  have D2F := Lib.hid (show ∀ x, d2.ownBlock = some x → ¬ Blk g w.heap.size v7 x from fun x hx hb => (hf2 x hx).2 ((blk_own h73).1 hb))
  obtain ⟨A2, c2, rfl, _⟩ := hN2.len
  have D2 := Lib.hid hN2
  clear hL hf hd1 hd2 HC7 h71 h72 h73 hf2 hN2
  -- too late
  have HC8 := Lib.hid (put_any 5 1 10 _ L7.out.ln n6.1 n6.2)
  go_wp2_with fail
  with_reducible refine HC8.out.mono ?_
  rintro e w9 ⟨he, hP⟩
  rw [f9] at he
  rw [put_same f9 (by decide)] at hP
  obtain rfl := he
  obtain ⟨v8, hL, hf⟩ := L7.out.step hP
  have L8 := Lib.hid hL
  obtain ⟨hd1, hd2⟩ := D1.out.far hf D1F.out
  have D1 := Lib.hid hd1
  have D1F := Lib.hid hd2
  obtain ⟨hd3, hd4⟩ := D2.out.far hf D2F.out
  have D2 := Lib.hid hd3
  have D2F := Lib.hid hd4
  clear hP hL hf hd1 hd2 hd3 hd4 HC8 L6 L7
  have HT9 := Lib.hid (take_any _ L8.out.ln (Nat.le_trans n6.1 (by omega)))
  go_wp2_with fail
  with_reducible refine HT9.out.mono ?_
  rintro e w10 ⟨he, hP⟩
  rw [f10.1, f10.2] at he
  obtain rfl := he
  obtain ⟨v9, hL, hf⟩ := L8.out.step hP
  have L9 : Hid (LB w.heap.size w w10 g w.heap.size v9 S6) := hL
  obtain ⟨hd1, hd2⟩ := D1.out.far hf D1F.out
  have D1 := Lib.hid hd1
  have D1F := Lib.hid hd2
  obtain ⟨hd3, hd4⟩ := D2.out.far hf D2F.out
  have D2 := Lib.hid hd3
  have D2F := Lib.hid hd4
  clear hP hL hf hd1 hd2 hd3 hd4 HT9 L8
  have HT10 := Lib.hid (take_any _ L9.out.ln (Nat.le_trans n7 (by omega)))
  go_wp2_with fail
  with_reducible refine HT10.out.mono ?_
  rintro e w11 ⟨he, hP⟩
  rw [f11.1, f11.2] at he
  obtain rfl := he
  obtain ⟨v10, hL, hf⟩ := L9.out.step hP
  have L10 : Hid (LB w.heap.size w w11 g w.heap.size v10 S7) := hL
  obtain ⟨hd1, hd2⟩ := D1.out.far hf D1F.out
  have D1 := Lib.hid hd1
  have D1F := Lib.hid hd2
  obtain ⟨hd3, hd4⟩ := D2.out.far hf D2F.out
  have D2 := Lib.hid hd3
  have D2F := Lib.hid hd4
  clear hP hL hf hd1 hd2 hd3 hd4 HT10 L9
  have HT11 := Lib.hid (take_any _ L10.out.ln (Nat.le_trans n8 (by omega)))
  go_wp2_with fail
  with_reducible refine HT11.out.mono ?_
  rintro e w12 ⟨he, hP⟩
  rw [f12.1, f12.2] at he
  obtain rfl := he
  obtain ⟨v11, hL, hf⟩ := L10.out.step hP
  have L11 : Hid (LB w.heap.size w w12 g w.heap.size v11 S7.take) := hL
  obtain ⟨hd1, hd2⟩ := D1.out.far hf D1F.out
  have D1 := Lib.hid hd1
  have D1F := Lib.hid hd2
  obtain ⟨hd3, hd4⟩ := D2.out.far hf D2F.out
  have D2 := Lib.hid hd3
  have D2F := Lib.hid hd4
  clear hP hL hf hd1 hd2 hd3 hd4 HT11 L10
  have HL := Lib.hid (now_any _ L11.out.ln)
  rw [show (S7.take).now = 10 from f13] at HL
  have hB12 : Below w.heap.size w w12 := L11.out.bel
  have HB12 := Lib.hid hB12
  have HS1 := Lib.hid (show Calls Try.prog 13 #[.slice A1 4 c1, .slice (some ⟨w12.heap.size, 0, none⟩) 4 4] (w12.alloc (.cells #[nV 2, nV 4, nV 1, nV 3] 3)) (fun e w' => SameP [2, 4, 1, 3] [2, 4, 1, 3] (w12.alloc (.cells #[nV 2, nV 4, nV 1, nV 3] 3)) e w') from same_any A1 (some ⟨w12.heap.size, 0, none⟩) c1 4 [2, 4, 1, 3] [2, 4, 1, 3] (w12.alloc (.cells #[nV 2, nV 4, nV 1, nV 3] 3)) (D1.out.ints.keep ((Below.refl _ _).alloc (Nat.le_refl _) _)) (ints_new w12 [2, 4, 1, 3]) (by decide))
  have HS2 := Lib.hid (fun W (hB : Below w12.heap.size w12 W) => show Calls Try.prog 13 #[.slice A2 2 c2, .slice (some ⟨W.heap.size, 0, none⟩) 2 2] (W.alloc (.cells #[nV 4, nV 3] 3)) (fun e w' => SameP [4, 3] [4, 3] (W.alloc (.cells #[nV 4, nV 3] 3)) e w') from same_any A2 (some ⟨W.heap.size, 0, none⟩) c2 2 [4, 3] [4, 3] (W.alloc (.cells #[nV 4, nV 3] 3)) (D2.out.ints.keep (hB.alloc hB.size _)) (ints_new W [4, 3]) (by decide))
  have HN := Lib.hid (fun W (hB : Below w12.heap.size w12 W) => now_any W (L11.out.ln.keep hB))
  rw [show (S7.take).now = 10 from f13] at HN
  clear hB12 HL D1 D2 D1F D2F
  go_wp2_with fail
  with_reducible refine HS1.out.mono ?_
  rintro e w13 ⟨he, hB13⟩
  rw [show decide (([2, 4, 1, 3] : List Int) = [2, 4, 1, 3]) = true by decide] at he
  obtain rfl := he
  have hB13' : Below w12.heap.size w12 w13 := ((Below.refl _ _).alloc (Nat.le_refl _) _).trans (hB13.mono (by simp))
  have HB13 := Lib.hid hB13'
  have HS2' := Lib.hid (HS2.out w13 hB13')
  clear hB13 hB13' HS1
  go_wp2_with fail
  with_reducible refine HS2'.out.mono ?_
  rintro e w14 ⟨he, hB14⟩
  rw [show decide (([4, 3] : List Int) = [4, 3]) = true by decide] at he
  obtain rfl := he
  have hB14' : Below w12.heap.size w12 w14 := (HB13.out.alloc HB13.out.size _).trans (hB14.mono (by have := HB13.out.size; simp; omega))
  have HB14 := Lib.hid hB14'
  have HN' := Lib.hid (HN.out w14 hB14')
  clear hB14 hB14' HS2 HS2' HN
  go_wp2_with fail
  with_reducible refine HN'.out.mono ?_
  rintro e w15 ⟨rfl, rfl⟩
  have HFF := Lib.hid (HB12.out.trans (HB14.out.mono L11.out.sz))
  go_wp2_with fail
  go_ret
  exact ⟨rfl, HFF.out⟩
end Go.Proofs.Ytagfhlnedaagbaa
