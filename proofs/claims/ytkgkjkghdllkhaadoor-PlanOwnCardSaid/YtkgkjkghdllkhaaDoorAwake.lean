/-
  The chapter's example: awake answers true, and changes nothing that was there.
-/
import Derived.Test.YtkgkjkghdllkhaaDoorLeast
import Derived.Test.YtkgkjkghdllkhaaDoorDecH
import Derived.Test.YtkgkjkghdllkhaaDoorSameD
import Derived.Lib.SmallJoins
namespace Go.Proofs.YtkgkjkghdllkhaaDoor
open Go.RowKit

theorem ex_size : exS.size = 24 ∧ exC.size = 12 ∧ exX.size = 25 := ⟨rfl, rfl, rfl⟩
theorem ex_decE : decE exS = 0 := by
  unfold decE
  rw [if_neg (by decide), if_neg (by rw [ex_magic.1]; simp), if_neg (by rw [ex_plan]; simp), if_neg (by rw [ex_plan]; decide)]
theorem ex_decP : decP exS = leastA := by
  unfold decP
  rw [if_pos ex_decE, ex_plan]
theorem ex_extract : exS.extract 0 12 = exC := by
  apply ByteArray.ext
  apply Array.toList_inj.1
  rw [Lib.extract_data]
  rfl
theorem exC_E : decE exC = 20 ∧ decA exC = 12 := by
  unfold decE decA
  rw [if_neg (by decide), if_neg (by rw [ex_magic.2.1]; simp), if_pos (by rw [ex_cut]), if_neg (by decide), if_neg (by rw [ex_magic.2.1]; simp), if_pos (by rw [ex_cut]), ex_cut]
  exact ⟨rfl, rfl⟩
theorem exX_E : decE exX = 21 ∧ decA exX = 24 := by
  unfold decE decA
  rw [if_neg (by decide), if_neg (by rw [ex_magic.2.2]; simp), if_neg (by rw [ex_more]; simp), if_pos (by rw [ex_more]; decide), if_neg (by decide), if_neg (by rw [ex_magic.2.2]; simp), if_neg (by rw [ex_more]; simp), if_pos (by rw [ex_more]; decide), ex_more]
  exact ⟨rfl, rfl⟩
theorem least_small : Small leastA := by show (enc leastA).length ≤ 1000000; decide
theorem least_fit : fitAt leastA = -1 := by rfl
theorem least_wf : WfPlan leastA := by
  simp [WfPlan, leastA, WfWin, WfPart, wide, byte]
  rintro a b c d rfl rfl rfl rfl
  omega
theorem two_byte {n : Int} (h : wide n) : ∀ z ∈ two n, byte z := by
  obtain ⟨h0, h1⟩ := h
  intro z hz
  unfold two at hz
  simp only [List.mem_cons, List.not_mem_nil, or_false] at hz
  unfold byte
  rcases hz with rfl | rfl <;> constructor <;> omega
theorem len_byte {n : Nat} (h : n ≤ 255) : byte (n : Int) := by unfold byte; constructor <;> omega
/-- A plan's encoding consists of bytes. -/
theorem enc_byte {P : PlanA} (hw : WfPlan P) (hf : Fits P) : ∀ z ∈ enc P, byte z := by
  obtain ⟨w1, w2, w3, w4, w5⟩ := hw
  obtain ⟨f1, f2, f3, f4, f5, f6⟩ := hf
  intro z hz
  unfold enc at hz
  simp only [List.mem_append, List.mem_flatMap] at hz
  rcases hz with (((hz | ⟨ws, hm, hz⟩) | ⟨q, hm, hz⟩) | ⟨c, hm, hz⟩) | ⟨r, hm, hz⟩
  · unfold encHead magicL at hz
    simp only [List.mem_append, List.mem_cons, List.not_mem_nil, or_false] at hz
    rcases hz with ((rfl | rfl | rfl | rfl) | hz) | (rfl | rfl | rfl | rfl)
    · unfold byte; omega
    · unfold byte; omega
    · unfold byte; omega
    · unfold byte; omega
    · exact two_byte w1 z hz
    · exact len_byte f1
    · exact len_byte f2
    · exact len_byte f3
    · exact len_byte f4
  · unfold encCore at hz
    simp only [List.mem_append, List.mem_flatMap] at hz
    rcases hz with hz | ⟨x, hx, hz⟩
    · exact two_byte ⟨by omega, by have := f5 ws hm; omega⟩ z hz
    · obtain ⟨a1, a2, a3, a4⟩ := w2 ws hm x hx
      unfold encWin at hz
      simp only [List.mem_append, List.mem_cons, List.not_mem_nil, or_false] at hz
      rcases hz with (hz | hz) | (rfl | rfl)
      · exact two_byte a1 z hz
      · exact two_byte a2 z hz
      · exact a3
      · exact a4
  · obtain ⟨a1, a2, a3, a4, a5, a6⟩ := w3 q hm
    have hf := f6 q hm
    unfold encPart at hz
    simp only [List.mem_append, List.mem_cons, List.not_mem_nil, or_false, List.mem_flatMap] at hz
    rcases hz with (((rfl | ⟨x, hx, hz⟩) | (rfl | rfl)) | hz) | (rfl | rfl | rfl)
    · exact len_byte hf.1
    · unfold encSem at hz
      simp only [List.mem_cons, List.not_mem_nil, or_false] at hz
      rcases hz with rfl | rfl
      · exact (a1 x hx).1
      · exact (a1 x hx).2
    · exact a2
    · exact len_byte hf.2
    · exact a3 z hz
    · exact a4
    · exact a5
    · exact a6
  · obtain ⟨a1, a2, a3, a4, a5, a6⟩ := w4 c hm
    unfold encChan at hz
    simp only [List.mem_append, List.mem_cons, List.not_mem_nil, or_false] at hz
    rcases hz with (rfl | rfl | rfl | rfl | rfl) | hz
    · exact a1
    · exact a2
    · exact a3
    · exact a4
    · exact a5
    · exact two_byte a6 z hz
  · obtain ⟨a1, a2⟩ := w5 r hm
    unfold encPair at hz
    simp only [List.mem_cons, List.not_mem_nil, or_false] at hz
    rcases hz with rfl | rfl
    · exact a1
    · exact a2
/-- The cells of a row of bytes. -/
theorem at_lit {w : World} {C : Array Value} {s : ByteArray} {fr : Nat × Nat} (h : C.toList = s.data.toList.map fun x => .int .u8 (x.toNat : Int)) : At (w.alloc (.cells C 5 fr)) ⟨w.heap.size, 0, none⟩ s := fun i hi => by
  rw [add_lit, Nat.zero_add, World.cell?_alloc_mark, ← Array.getElem?_toList, h, List.getElem?_map, byte_at s i hi]
  rfl
theorem enc_bytes {l : List Int} (h : ∀ z ∈ l, byte z) : (bytesL l).data.toList.map (fun x => Value.int .u8 (x.toNat : Int)) = l.map bV := by
  unfold bytesL
  simp only [List.map_map]
  apply List.map_congr_left
  intro z hz
  obtain ⟨h0, h1⟩ := h z hz
  show Value.int .u8 _ = Value.int .u8 _
  have : ((UInt8.ofNat z.toNat).toNat : Int) = z := by
    rw [UInt8.toNat_ofNat']
    omega
  simpa using this
/-- What is owned can be read as bytes. -/
theorem Own.bytes {w : World} {base : Nat} {v : Value} {l : List Int} (h : Own w base v l) (hl : 0 < l.length) (hb : ∀ z ∈ l, byte z) : ∃ g c, v = .slice (some ⟨g, 0, none⟩) l.length c ∧ base ≤ g ∧ Lib.Bytes w g 0 (bytesL l) ∧ (bytesL l).size = l.length := by
  have hsz : (bytesL l).size = l.length := by
    show (bytesL l).data.size = _
    simp [bytesL]
  rcases h.2 with ⟨_, hn⟩ | ⟨g, cap, cur, rfl, hg, _⟩
  · omega
  · refine ⟨g, cap, rfl, hg, fun i hi => ?_, hsz⟩
    have hi' : (l.map bV)[i]? = some (.int .u8 ((bytesL l)[i].toNat : Int)) := by
      rw [← enc_bytes hb, List.getElem?_map, byte_at (bytesL l) i hi]
      rfl
    have := World.ownsRow.cells h (g := g) rfl i _ hi'
    rw [add_lit] at this
    exact this

/-- What awake reads at its end. -/
def SA (h3 g : Nat) (A1 : Option Addr) (c1 : Nat) (A2 : Option Addr) (c2 : Nat) (A3 : Option Addr) (c3 : Nat) (A4 : Option Addr) (c4 : Nat) (w' : World) : Prop :=
  w'.cell? ⟨h3, 0, none⟩ = some (.int .u16 10) ∧ w'.cell? ⟨h3, 1, none⟩ = some (.slice A1 1 c1) ∧ w'.cell? ⟨h3, 2, none⟩ = some (.slice A2 1 c2) ∧ w'.cell? ⟨h3, 3, none⟩ = some (.slice A3 0 c3) ∧ w'.cell? ⟨h3, 4, none⟩ = some (.slice A4 0 c4) ∧ Lib.Bytes w' g 0 exS
theorem SA.keep {h3 g : Nat} {A1 : Option Addr} {c1 : Nat} {A2 : Option Addr} {c2 : Nat} {A3 : Option Addr} {c3 : Nat} {A4 : Option Addr} {c4 : Nat} {w w' : World} (h : SA h3 g A1 c1 A2 c2 A3 c3 A4 c4 w) (hb : Below w.heap.size w w') : SA h3 g A1 c1 A2 c2 A3 c3 A4 c4 w' := by
  obtain ⟨a0, a1, a2, a3, a4, a5⟩ := h
  exact ⟨(hb.cell (cell_lt' a0)).trans a0, (hb.cell (cell_lt' a1)).trans a1, (hb.cell (cell_lt' a2)).trans a2, (hb.cell (cell_lt' a3)).trans a3, (hb.cell (cell_lt' a4)).trans a4, fun i hi => (hb.cell (cell_lt' (a5 i hi))).trans (a5 i hi)⟩

set_option maxHeartbeats 8000000 in
set_option maxRecDepth 100000 in
theorem awake_any (w : World) (hG : GOk w) : Calls Tryd.prog 11 #[] w fun e w' => e = .returned (.bool true) ∧ Below w.heap.size w w' := by
  have HG := Lib.hid hG
  have h0 := hG.lt
  clear hG
  go_enter Tryd.func11, Tryd.ntmps11
  go_wp2_with fail
  refine (least_any w).mono ?_
  rintro e w1 ⟨L, rfl, hP, hB⟩
  have HB := Lib.hid hB
  have HE := Lib.hid (enc_yes leastA L w1 hP least_small least_fit least_wf)
  clear hP hB
  go_wp2_with fail
  refine HE.out.mono ?_
  rintro e w2 ⟨v, rfl, hO, hB⟩
  obtain ⟨g, cg, hv, hg, hby, hsz⟩ := Own.bytes hO (by decide) (enc_byte least_wf (fits_of least_fit))
  rw [show (enc leastA).length = 24 from rfl] at hv
  subst hv
  rw [ex_enc] at hby
  have HBY := Lib.hid hby
  have hBB := HB.out.trans (hB.mono HB.out.size)
  clear HB hO hB hby hsz HE
  have HB := Lib.hid hBB
  clear hBB
  have kc := Lib.run_convert_bytes_const (P := Tryd.prog) w2 31 5 #[.int .u8 80, .int .u8 85, .int .u8 82, .int .u8 49, .int .u8 0, .int .u8 10, .int .u8 1, .int .u8 1, .int .u8 0, .int .u8 0, .int .u8 0, .int .u8 1, .int .u8 0, .int .u8 0, .int .u8 0, .int .u8 10, .int .u8 0, .int .u8 0, .int .u8 0, .int .u8 0, .int .u8 0, .int .u8 0, .int .u8 0, .int .u8 0] 24 24 Tryd.underlying31 Tryd.underlying5
  have HD := Lib.hid (dec_ok ⟨w2.heap.size, 0, none⟩ 24 exS (w2.alloc (.cells #[.int .u8 80, .int .u8 85, .int .u8 82, .int .u8 49, .int .u8 0, .int .u8 10, .int .u8 1, .int .u8 1, .int .u8 0, .int .u8 0, .int .u8 0, .int .u8 1, .int .u8 0, .int .u8 0, .int .u8 0, .int .u8 10, .int .u8 0, .int .u8 0, .int .u8 0, .int .u8 0, .int .u8 0, .int .u8 0, .int .u8 0, .int .u8 0] 5 (24, 25))) (at_lit rfl) (by decide) (by decide) ex_magic.1 (by rw [ex_plan]; exact ⟨rfl, by decide⟩))
  go_wp2_with fail
  refine HD.out.mono ?_
  rintro e w3 ⟨L2, rfl, hP, hB⟩
  rw [ex_decP] at hP ⊢
  have hB0 := (Below.refl w2.heap.size w2).alloc (Nat.le_refl _) (.cells #[.int .u8 80, .int .u8 85, .int .u8 82, .int .u8 49, .int .u8 0, .int .u8 10, .int .u8 1, .int .u8 1, .int .u8 0, .int .u8 0, .int .u8 0, .int .u8 1, .int .u8 0, .int .u8 0, .int .u8 0, .int .u8 10, .int .u8 0, .int .u8 0, .int .u8 0, .int .u8 0, .int .u8 0, .int .u8 0, .int .u8 0, .int .u8 0] 5 (24, 25))
  have hB2 := hB0.trans (hB.mono (by simp))
  have HBY3 := Lib.hid (fun i hi => (hB2.cell (p := ⟨g, 0 + i, none⟩) (cell_lt' (HBY.out i hi))).trans (HBY.out i hi))
  have HP3 := Lib.hid hP
  have hBB := HB.out.trans (hB2.mono HB.out.size)
  clear HBY HB hP hB hB0 hB2 kc HD
  have HB := Lib.hid hBB
  clear hBB
  obtain ⟨A1, c1, A2, c2, A3, c3, A4, c4⟩ := L2
  rw [show planV leastA ⟨A1, c1, A2, c2, A3, c3, A4, c4⟩ = .agg #[.int .u16 10, .slice A1 1 c1, .slice A2 1 c2, .slice A3 0 c3, .slice A4 0 c4] from rfl]
  obtain ⟨h3, hh3⟩ : ∃ h3, h3 = w3.heap.size := ⟨_, rfl⟩
  obtain ⟨W3, hW3⟩ : ∃ W3, W3 = w3.alloc (.cells #[.int .u16 10, .slice A1 1 c1, .slice A2 1 c2, .slice A3 0 c3, .slice A4 0 c4] 28) := ⟨_, rfl⟩
  have hb3 : Below w3.heap.size w3 W3 := by rw [hW3]; exact (Below.refl _ _).alloc (Nat.le_refl _) _
  have HRX : Hid (W3.heap[h3]? = some (.cells #[.int .u16 10, .slice A1 1 c1, .slice A2 1 c2, .slice A3 0 c3, .slice A4 0 c4] 28 (0, 0))) := by
    show _ = _
    rw [hW3, hh3]
    exact heap_alloc_new _ _
  have HBYa := Lib.hid (fun i hi => (hb3.cell (p := ⟨g, 0 + i, none⟩) (cell_lt' (HBY3.out i hi))).trans (HBY3.out i hi))
  have HPa := Lib.hid (HP3.out.keep hb3)
  have HBa := Lib.hid (HB.out.trans (hb3.mono HB.out.size))
  have hcv := conv_run exC W3
  have HD := Lib.hid (dec_bad ⟨W3.heap.size, 0, none⟩ (grownCap W3 exC.size 0 5) exC (convW W3 exC) (convW_at W3 exC) (by decide) (by decide) ex_magic.2.1 (by rw [ex_cut]))
  have hcz := convW_below W3 exC
  rw [hW3] at hcv
  have HW3 := Lib.hid hW3
  have HZ3 : Hid (w3.heap.size + 1 = W3.heap.size) := by show _ = _; rw [hW3]; simp
  have HH3 := Lib.hid hh3
  have HCZ := Lib.hid hcz
  clear hW3 hb3 HBY3 HP3 HB hh3 hcz
  unfold exC at hcv
  have hex : (⟨#[80, 85, 82, 49, 0, 10, 1, 1, 0, 0, 0, 1, 0, 0, 0, 10, 0, 0, 0, 0, 0, 0, 0, 0]⟩ : ByteArray).extract 0 12 = ⟨#[80, 85, 82, 49, 0, 10, 1, 1, 0, 0, 0, 1]⟩ := ex_extract
  go_wp2_with fail
  rw [← HW3.out, HZ3.out]
  have HD' : Calls Tryd.prog 15 #[.slice (some ⟨W3.heap.size, 0, none⟩) 12 (grownCap W3 12 0 5)] (convW W3 ⟨#[80, 85, 82, 49, 0, 10, 1, 1, 0, 0, 0, 1]⟩) fun e w' => DecBad exC (convW W3 exC) e w' := HD.out
  refine HD'.mono ?_
  rintro e w4 ⟨f4, rfl, q0, q1, hB⟩
  rw [exC_E.2] at q0
  rw [exC_E.1] at q1
  have hB4 := HCZ.out.trans (hB.mono HCZ.out.size)
  have HRX4 := Lib.hid ((hB4.block _ (Array.getElem?_eq_some_iff.1 HRX.out).1).trans HRX.out)
  have HBY4 := Lib.hid (fun i hi => (hB4.cell (p := ⟨g, 0 + i, none⟩) (cell_lt' (HBYa.out i hi))).trans (HBYa.out i hi))
  have HP4 := Lib.hid (HPa.out.keep hB4)
  have HB4 := Lib.hid (HBa.out.trans (hB4.mono HBa.out.size))
  clear hcv hex HRX HBYa HPa HBa hB HCZ hB4 HD HD'
  rw [show planV emptyA L0 = .agg #[.int .u16 0, .slice none 0 0, .slice none 0 0, .slice none 0 0, .slice none 0 0] from rfl]
  obtain ⟨W4, hW4⟩ : ∃ W4, W4 = w4.alloc (.cells #[.int .u16 0, .slice none 0 0, .slice none 0 0, .slice none 0 0, .slice none 0 0] 28) := ⟨_, rfl⟩
  have hb4 : Below w4.heap.size w4 W4 := by rw [hW4]; exact (Below.refl _ _).alloc (Nat.le_refl _) _
  have kc := Joins.run_convert_bytes_const_at (P := Tryd.prog) (w4.alloc (.cells #[.int .u16 0, .slice none 0 0, .slice none 0 0, .slice none 0 0, .slice none 0 0] 28)) 31 5 #[.int .u8 80, .int .u8 85, .int .u8 82, .int .u8 49, .int .u8 0, .int .u8 10, .int .u8 1, .int .u8 1, .int .u8 0, .int .u8 0, .int .u8 0, .int .u8 1, .int .u8 0, .int .u8 0, .int .u8 0, .int .u8 10, .int .u8 0, .int .u8 0, .int .u8 0, .int .u8 0, .int .u8 0, .int .u8 0, .int .u8 0, .int .u8 0, .int .u8 120] 25 25 (w4.heap.size + 1) (by simp) Tryd.underlying31 Tryd.underlying5
  have HD := Lib.hid (dec_more ⟨W4.heap.size, 0, none⟩ 25 exX (W4.alloc (.cells #[.int .u8 80, .int .u8 85, .int .u8 82, .int .u8 49, .int .u8 0, .int .u8 10, .int .u8 1, .int .u8 1, .int .u8 0, .int .u8 0, .int .u8 0, .int .u8 1, .int .u8 0, .int .u8 0, .int .u8 0, .int .u8 10, .int .u8 0, .int .u8 0, .int .u8 0, .int .u8 0, .int .u8 0, .int .u8 0, .int .u8 0, .int .u8 0, .int .u8 120] 5 (25, 26))) (at_lit rfl) (by decide) (by decide) ex_magic.2.2 (by rw [ex_more]; exact ⟨rfl, by decide⟩))
  have hcz := hb4.trans (((Below.refl W4.heap.size W4).alloc (Nat.le_refl _) (.cells #[.int .u8 80, .int .u8 85, .int .u8 82, .int .u8 49, .int .u8 0, .int .u8 10, .int .u8 1, .int .u8 1, .int .u8 0, .int .u8 0, .int .u8 0, .int .u8 1, .int .u8 0, .int .u8 0, .int .u8 0, .int .u8 10, .int .u8 0, .int .u8 0, .int .u8 0, .int .u8 0, .int .u8 0, .int .u8 0, .int .u8 0, .int .u8 0, .int .u8 120] 5 (25, 26))).mono hb4.size)
  have hez : (W4.alloc (.cells #[.int .u8 80, .int .u8 85, .int .u8 82, .int .u8 49, .int .u8 0, .int .u8 10, .int .u8 1, .int .u8 1, .int .u8 0, .int .u8 0, .int .u8 0, .int .u8 1, .int .u8 0, .int .u8 0, .int .u8 0, .int .u8 10, .int .u8 0, .int .u8 0, .int .u8 0, .int .u8 0, .int .u8 0, .int .u8 0, .int .u8 0, .int .u8 0, .int .u8 120] 5 (25, 26))).heap.size = W4.heap.size + 1 := by simp
  have HEZ := Lib.hid hez
  have HCZ := Lib.hid hcz
  have HBW4 := Lib.hid hb4
  have HQ0 := Lib.hid ((hb4.cell (p := ⟨f4, 0, none⟩) (cell_lt' q0)).trans q0)
  have HQ1 := Lib.hid ((hb4.cell (p := ⟨f4, 0 + 1, none⟩) (cell_lt' q1)).trans q1)
  have HW4 := Lib.hid hW4
  have HZ4 : Hid (w4.heap.size + 1 = W4.heap.size) := by show _ = _; rw [hW4]; simp
  clear hW4 hb4 hcz hez q0 q1
  go_wp2_with fail
  rw [← HW4.out, HZ4.out]
  refine HD.out.mono ?_
  rintro e w5 ⟨f5, rfl, q0, q1, hB⟩
  rw [exX_E.2] at q0
  rw [exX_E.1] at q1
  have hB5 := HCZ.out.trans (hB.mono (by have := HCZ.out.size; omega))
  have hB5' : Below W4.heap.size W4 w5 := ((Below.refl W4.heap.size W4).alloc (Nat.le_refl _) (.cells #[.int .u8 80, .int .u8 85, .int .u8 82, .int .u8 49, .int .u8 0, .int .u8 10, .int .u8 1, .int .u8 1, .int .u8 0, .int .u8 0, .int .u8 0, .int .u8 1, .int .u8 0, .int .u8 0, .int .u8 0, .int .u8 10, .int .u8 0, .int .u8 0, .int .u8 0, .int .u8 0, .int .u8 0, .int .u8 0, .int .u8 0, .int .u8 0, .int .u8 120] 5 (25, 26))).trans (hB.mono (by rw [HEZ.out]; omega))
  have hb5 : Below w5.heap.size w5 (w5.alloc (.cells #[.int .u16 0, .slice none 0 0, .slice none 0 0, .slice none 0 0, .slice none 0 0] 28)) := (Below.refl _ _).alloc (Nat.le_refl _) _
  obtain ⟨W5, hW5⟩ : ∃ W5, W5 = w5.alloc (.cells #[.int .u16 0, .slice none 0 0, .slice none 0 0, .slice none 0 0, .slice none 0 0] 28) := ⟨_, rfl⟩
  rw [← hW5] at hb5
  have hB6 := hB5.trans (hb5.mono hB5.size)
  have hB6' := hB5'.trans (hb5.mono hB5'.size)
  have HRX5 := Lib.hid ((hB6.block _ (Array.getElem?_eq_some_iff.1 HRX4.out).1).trans HRX4.out)
  have HBY5 := Lib.hid (fun i hi => (hB6.cell (p := ⟨g, 0 + i, none⟩) (cell_lt' (HBY4.out i hi))).trans (HBY4.out i hi))
  have HP5 := Lib.hid (HP4.out.keep hB6)
  have HB5 := Lib.hid (HB4.out.trans (hB6.mono HB4.out.size))
  have hG5 := HG.out.below HB5.out h0
  have HY1 := Lib.hid (why_fail0 f4 0 20 12 W5 hG5 ((hB6'.cell (p := ⟨f4, 0, none⟩) (cell_lt' HQ0.out)).trans HQ0.out) ((hB6'.cell (p := ⟨f4, 0 + 1, none⟩) (cell_lt' HQ1.out)).trans HQ1.out))
  have HS0 := Lib.hid ((hb5.cell (p := ⟨f5, 0, none⟩) (cell_lt' q0)).trans q0)
  have HS1 := Lib.hid ((hb5.cell (p := ⟨f5, 0 + 1, none⟩) (cell_lt' q1)).trans q1)
  have HW5 := Lib.hid hW5
  clear HRX4 HBY4 HP4 HB4 HQ0 HQ1 hB HCZ hB5 hB5' hB6 hB6' hb5 hG5 q0 q1 HD kc HEZ HBW4 hW5
  rw [show planV emptyA L0 = .agg #[.int .u16 0, .slice none 0 0, .slice none 0 0, .slice none 0 0, .slice none 0 0] from rfl]
  go_wp2_with fail
  rw [← HW5.out]
  refine HY1.out.mono ?_
  rintro e w6 ⟨rfl, hB⟩
  have HRX6 := Lib.hid ((hB.block _ (Array.getElem?_eq_some_iff.1 HRX5.out).1).trans HRX5.out)
  have HBY6 := Lib.hid (fun i hi => (hB.cell (p := ⟨g, 0 + i, none⟩) (cell_lt' (HBY5.out i hi))).trans (HBY5.out i hi))
  have HP6 := Lib.hid (HP5.out.keep hB)
  have HB6 := Lib.hid (HB5.out.trans (hB.mono HB5.out.size))
  have HY2 := Lib.hid (why_fail0 f5 0 21 24 w6 (HG.out.below HB6.out h0) ((hB.cell (p := ⟨f5, 0, none⟩) (cell_lt' HS0.out)).trans HS0.out) ((hB.cell (p := ⟨f5, 0 + 1, none⟩) (cell_lt' HS1.out)).trans HS1.out))
  clear HRX5 HBY5 HP5 HB5 HS0 HS1 hB HY1
  go_wp2_with fail
  refine HY2.out.mono ?_
  rintro e w7 ⟨rfl, hB⟩
  have HRX7 := Lib.hid ((hB.block _ (Array.getElem?_eq_some_iff.1 HRX6.out).1).trans HRX6.out)
  have HBY7 := Lib.hid (fun i hi => (hB.cell (p := ⟨g, 0 + i, none⟩) (cell_lt' (HBY6.out i hi))).trans (HBY6.out i hi))
  have HP7 := Lib.hid (HP6.out.keep hB)
  have HB7 := Lib.hid (HB6.out.trans (hB.mono HB6.out.size))
  clear HRX6 HBY6 HP6 HB6 hB HY2
  rw [← HH3.out]
  have hcv : ∀ W, Lib.Bytes W g 0 exS → (convert 31 9 (.slice (some ⟨g, 0, none⟩) 24 cg)).run Tryd.prog W = .ok (.string ⟨#[80, 85, 82, 49, 0, 10, 1, 1, 0, 0, 0, 1, 0, 0, 0, 10, 0, 0, 0, 0, 0, 0, 0, 0]⟩) W := fun W h => Lib.run_convert_whole (P := Tryd.prog) W 31 5 9 Tryd.underlying31 Tryd.underlying5 Tryd.underlying9 g 0 exS h cg
  have hSA : SA h3 g A1 c1 A2 c2 A3 c3 A4 c4 w7 := ⟨(box5 HRX7.out).1, (box5 HRX7.out).2.1, (box5 HRX7.out).2.2.1, (box5 HRX7.out).2.2.2.1, (box5 HRX7.out).2.2.2.2, HBY7.out⟩
  have hdr : Below w7.heap.size w7 w7.drew := (Below.refl _ _).drew
  have HK := Lib.hid (hSA.keep hdr)
  have HPd := Lib.hid (HP7.out.keep hdr)
  have HBd := Lib.hid (HB7.out.trans (hdr.mono HB7.out.size))
  clear hSA hdr HP7 HB7 HRX7 HBY7
  go_wp2_with fail
  go_region_held3 (fun w' => w'.cell? ⟨h3, 0, none⟩ = some (.int .u16 10) ∧ w'.cell? ⟨h3, 1, none⟩ = some (.slice A1 1 c1) ∧ w'.cell? ⟨h3, 2, none⟩ = some (.slice A2 1 c2) ∧ w'.cell? ⟨h3, 3, none⟩ = some (.slice A3 0 c3) ∧ w'.cell? ⟨h3, 4, none⟩ = some (.slice A4 0 c4) ∧ Lib.Bytes w' g 0 exS) (exact HK.out)
    (first
      | (go_at_call 20; refine (least_any _).mono ?_; rintro e w8 ⟨L3, rfl, hP, hB⟩
         have hk := HK.out.keep hB
         have hp := HPd.out.keep hB
         have hb := HBd.out.trans (hB.mono HBd.out.size)
         have HSM : Calls Tryd.prog 19 #[.agg #[.int .u16 10, .slice A1 1 c1, .slice A2 1 c2, .slice A3 0 c3, .slice A4 0 c4], planV leastA L3] w8 fun e w' => e = .returned (.bool (sameB leastA leastA)) ∧ Below w8.heap.size w8 w' := same_any leastA leastA ⟨A1, c1, A2, c2, A3, c3, A4, c4⟩ L3 w8 hp hP (by decide) (by decide) (by decide) (by decide) (lens_le least_small |>.2.2.2.2.1 · · |>.2) (lens_le least_small).2.2.2.2.2
         rw [same_yes rfl] at HSM
         have HSM := Lib.hid HSM
         clear HK HPd HBd hB hP hp
         have HK := Lib.hid hk
         have HBd := Lib.hid hb
         clear hk hb)
      | (go_at_call 19; refine HSM.out.mono ?_; rintro e w9 ⟨rfl, hB⟩
         have hk := HK.out.keep hB
         have hb := HBd.out.trans (hB.mono HBd.out.size)
         clear HK HBd hB HSM
         have HK := Lib.hid hk
         have HBd := Lib.hid hb
         clear hk hb))
  all_goals
    go_wp2
    go_ret
    exact ⟨rfl, HBd.out⟩
end Go.Proofs.YtkgkjkghdllkhaaDoor
