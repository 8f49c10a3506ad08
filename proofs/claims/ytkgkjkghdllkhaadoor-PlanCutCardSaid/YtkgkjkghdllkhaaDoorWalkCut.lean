/-
  PlanCut, walked: cut bytes are too short, bytes with a tail too long.
-/
import Derived.Test.YtkgkjkghdllkhaaDoorWalkBack
import Derived.Test.YtkgkjkghdllkhaaDoorCutA
import Derived.Lib.AppendStr
import Derived.Laws.Closers25b
namespace Go.Proofs.YtkgkjkghdllkhaaDoor
open Go.RowKit

/-- A plan of few elements has few bytes. -/
theorem enc_small {P : PlanA} (h : allN P ≤ 2000) : (enc P).length ≤ 100000 := by
  unfold allN at h
  have e1 : (P.2.1.flatMap encCore).length ≤ 2 * P.2.1.length + 6 * sumN (fun j => (P.2.1.getD j []).length) P.2.1.length := by
    have := flat_sum encCore P.2.1 [] P.2.1.length (Nat.le_refl _)
    rw [List.take_length] at this
    rw [this]
    refine sum_le _ _ 2 6 (fun j => ?_) _
    unfold encCore
    rw [List.length_append, flat_len encWin 6 (fun x => rfl)]
    show 2 + _ ≤ _
    omega
  have e2 : (P.2.2.1.flatMap encPart).length ≤ 7 * P.2.2.1.length + 2 * sumN (fun j => (P.2.2.1.getD j dQ).1.length + (P.2.2.1.getD j dQ).2.2.1.length) P.2.2.1.length := by
    have := flat_sum encPart P.2.2.1 dQ P.2.2.1.length (Nat.le_refl _)
    rw [List.take_length] at this
    rw [this]
    refine sum_le _ _ 7 2 (fun j => ?_) _
    unfold encPart
    simp only [List.length_append, flat_len encSem 2 (fun x => rfl), List.length_cons, List.length_nil]
    omega
  have e3 : (P.2.2.2.1.flatMap encChan).length = 7 * P.2.2.2.1.length := flat_len encChan 7 (fun x => rfl) _
  have e4 : (P.2.2.2.2.flatMap encPair).length = 2 * P.2.2.2.2.length := flat_len encPair 2 (fun x => rfl) _
  have e0 : (encHead P).length = 10 := rfl
  unfold enc
  rw [List.length_append, List.length_append, List.length_append, List.length_append, e0, e3, e4]
  omega

/-- The numbers of bytes. -/
def numsOf (t : ByteArray) : List Int := t.data.toList.map fun x => (x.toNat : Int)
theorem numsOf_byte (t : ByteArray) : ∀ z ∈ numsOf t, byte z := by
  intro z hz
  obtain ⟨x, _, rfl⟩ := List.mem_map.1 hz
  have := x.toNat_lt
  unfold byte
  omega
theorem numsOf_len (t : ByteArray) : (numsOf t).length = t.size := by
  rw [numsOf, List.length_map, Array.length_toList]
  rfl
theorem bytesL_app (l : List Int) (t : ByteArray) : bytesL l ++ t = bytesL (l ++ numsOf t) := by
  apply ByteArray.ext
  apply Array.toList_inj.1
  simp only [bytesL, numsOf, ByteArray.data_append, Array.toList_append, List.map_append, List.map_map]
  congr 1
  symm
  conv => rhs; rw [← List.map_id t.data.toList]
  apply List.map_congr_left
  intro x _
  simp


theorem arr_none {w : World} {C : Nat} {F : Nat → List Value} : Arr w none C 0 F := fun i hi => by omega
theorem empty_at (w : World) : PlanAt w emptyA L0 :=
  ⟨⟨fun _ => (none, 0), arr_none, fun _ hi => absurd hi (Nat.not_lt_zero _)⟩, ⟨fun _ => (none, 0), fun _ => (none, 0), arr_none, fun _ hi => absurd hi (Nat.not_lt_zero _)⟩, arr_none, arr_none⟩
theorem cellsOf_app (a b : ByteArray) : cellsOf (a ++ b) = cellsOf a ++ Lib.strCells b := by
  simp [cellsOf, Lib.strCells, ByteArray.data_append, Array.toList_append, List.map_append]
theorem own_caps {w : World} {base E C n c : Nat} {A : Option Addr} {xs : List Value} (h : w.ownsRow base E C (.slice A n c) n xs) : n ≤ c := by
  rcases h.2 with ⟨hv, h0⟩ | ⟨g, cap, cur, hv, _, _, h1, _⟩
  · cases hv; omega
  · cases hv; exact h1
theorem own_lit5 (w : World) : (w.alloc (.cells #[] 5)).ownsRow w.heap.size 5 1 (.slice (some ⟨w.heap.size, 0, none⟩) 0 0) 0 [] :=
  World.ownsRow_lit w #[] 0 (Nat.le_refl _) (by decide) rfl

/-- Decode over cut bytes. -/
theorem cut_any {P : PlanA} (hw : WfPlan P) (hf : Fits P) (hb : ∀ z ∈ enc P, byte z) (hl : (enc P).length ≤ 100000) {n : Nat} (hn : n < (enc P).length) (A : Addr) (c : Nat) (w : World) (hA : At w A (bytesL (enc P))) :
    Calls Tryd.prog 15 #[.slice (some A) n c] w fun e w' => ∃ f y, e = .returned (.tuple #[planV emptyA L0, .iface 71 (.pointer (some ⟨f, 0, none⟩))]) ∧ w'.cell? ⟨f, 0, none⟩ = some (.int .i64 y) ∧ w'.cell? ⟨f, 0 + 1, none⟩ = some (.int .i64 20) ∧ y ≤ n ∧ (n : Int) - 3 ≤ y ∧ Below w.heap.size w w' := by
  obtain ⟨d1, d2, d3⟩ := dec_cut hw hf hb hn
  have hsz : (bytesL ((enc P).take n)).size = n := by rw [bytesL_size, List.length_take]; omega
  have hat : At w A (bytesL ((enc P).take n)) := fun i hi => by
    have hi' : i < (bytesL (enc P)).size := by rw [bytesL_size]; omega
    rw [hA i hi']
    have e1 := byteI_bytesL hb (i := i) (by omega)
    have e2 := byteI_bytesL (l := (enc P).take n) (fun z hz => hb z (List.mem_of_mem_take hz)) (i := i) (by rw [List.length_take]; omega)
    rw [byteI_at hi', byteI_at hi, e1, e2, List.getD_eq_getElem?_getD, List.getD_eq_getElem?_getD, List.getElem?_take, if_pos (by omega)]
  have hd := decode_bad A c (bytesL ((enc P).take n)) w hat (by omega) (by rw [d1]; decide)
  rw [hsz] at hd
  refine hd.mono ?_
  rintro e w' ⟨f, he, h0, h1, hB⟩
  rw [d1] at h1
  exact ⟨f, _, he, h0, h1, d2, d3, hB⟩
/-- Decode over bytes with a tail. -/
theorem tail_any {P : PlanA} (hw : WfPlan P) (hf : Fits P) (hb : ∀ z ∈ enc P, byte z) (hl : (enc P).length ≤ 100000) {t : ByteArray} (ht : t.size ≤ 1000) (hn : 0 < t.size) (A : Addr) (c : Nat) (w : World) (hA : At w A (bytesL (enc P) ++ t)) :
    Calls Tryd.prog 15 #[.slice (some A) ((enc P).length + t.size) c] w fun e w' => ∃ f, e = .returned (.tuple #[planV emptyA L0, .iface 71 (.pointer (some ⟨f, 0, none⟩))]) ∧ w'.cell? ⟨f, 0, none⟩ = some (.int .i64 (enc P).length) ∧ w'.cell? ⟨f, 0 + 1, none⟩ = some (.int .i64 21) ∧ Below w.heap.size w w' := by
  have hne : numsOf t ≠ [] := fun e => by
    have := numsOf_len t
    rw [e] at this
    simp at this
    omega
  obtain ⟨d1, d2⟩ := dec_tail hw hf hb (numsOf_byte t) hne
  have hsz : (bytesL (enc P ++ numsOf t)).size = (enc P).length + t.size := by rw [bytesL_size, List.length_append, numsOf_len]
  rw [bytesL_app] at hA
  have hd := decode_bad A c (bytesL (enc P ++ numsOf t)) w hA (by omega) (by rw [d1]; decide)
  rw [hsz] at hd
  refine hd.mono ?_
  rintro e w' ⟨f, he, h0, h1, hB⟩
  rw [d1] at h1
  rw [d2] at h0
  exact ⟨f, he, h0, h1, hB⟩
theorem empty_yes {s : ByteArray} (h : s.size = 0) : s.toList.isEmpty = true := by
  have e : s = ByteArray.empty := by
    apply ByteArray.ext
    exact Array.eq_empty_of_size_eq_zero h
  rw [(toList_nil_iff_emptyBytes s).2 e]
  rfl
theorem empty_no {s : ByteArray} (h : ¬ s.size = 0) : s.toList.isEmpty = false := by
  cases hl : s.toList with
  | nil => exact absurd (by rw [(toList_nil_iff_emptyBytes s).1 hl]; rfl) h
  | cons a l => rfl

set_option maxHeartbeats 8000000 in
set_option maxRecDepth 100000 in
theorem walk_cut (P : PlanA) (L : PlanL) (at' : Int) (tail : ByteArray) (w : World) (hG : GOk w) (hP : PlanAt w P L) (hW : WfPlan P) (h1 : P.2.1.length ≤ 140737488355328) (h2 : P.2.2.1.length ≤ 140737488355328) (h3 : P.2.2.2.1.length ≤ 140737488355328) (h4 : P.2.2.2.2.length ≤ 140737488355328)
    (h5 : ∀ ws ∈ P.2.1, ws.length ≤ 140737488355328) (h6 : ∀ q ∈ P.2.2.1, q.1.length ≤ 140737488355328 ∧ q.2.2.1.length ≤ 140737488355328) (ha0 : 0 ≤ at') (ha1 : at' ≤ 65535) (ht : tail.size ≤ 140737488355328) :
    Calls Tryd.prog 7 #[planV P L, .int .u16 at', .string tail] w fun e w' => e = .returned (.bool true) ∧ Below w.heap.size w w' := by
  have h0 := hG.lt
  have HG := Lib.hid (fun W (hB : Below w.heap.size w W) => hG.below hB h0)
  have HAW := Lib.hid (fun W (hB : Below w.heap.size w W) => awake_any W (hG.below hB h0))
  have HF := Lib.hid (fun W (hB : Below w.heap.size w W) => few_any P L W (hP.keep hB) h1 h2 h3 h4 h5 h6)
  have HEY := Lib.hid (fun W (hB : Below w.heap.size w W) hs hf => enc_yes P L W (hP.keep hB) hs hf hW)
  have HEN := Lib.hid (fun W (hB : Below w.heap.size w W) hs hf => enc_no P L W (hP.keep hB) hs hf)
  have HW := Lib.hid hW
  have hpv : ∀ L : PlanL, planV P L = .agg #[.int .u16 P.1, .slice L.a1 P.2.1.length L.c1, .slice L.a2 P.2.2.1.length L.c2, .slice L.a3 P.2.2.2.1.length L.c3, .slice L.a4 P.2.2.2.2.length L.c4] := fun _ => rfl
  simp only [hpv] at HF HEY HEN ⊢
  have hB0 : Below w.heap.size w (w.alloc (.cells #[.int .u16 P.1, .slice L.a1 P.2.1.length L.c1, .slice L.a2 P.2.2.1.length L.c2, .slice L.a3 P.2.2.2.1.length L.c3, .slice L.a4 P.2.2.2.2.length L.c4] 28)) := (Below.refl _ _).alloc (Nat.le_refl _) _
  have hpb : PB (w.alloc (.cells #[.int .u16 P.1, .slice L.a1 P.2.1.length L.c1, .slice L.a2 P.2.2.1.length L.c2, .slice L.a3 P.2.2.2.1.length L.c3, .slice L.a4 P.2.2.2.2.length L.c4] 28)) w.heap.size P L := ⟨by simp, by simp, by simp, by simp, by simp⟩
  have HB0 := Lib.hid hB0
  have HPB0 := Lib.hid hpb
  have hni := fun x W => run_neq_iface_nil (P := Tryd.prog) W 33 (by kernel_rfl) 71 x
  have hnn := fun W => run_neq_nil_nil_at (P := Tryd.prog) W 33 (by kernel_rfl)
  have hen := fun W => run_eql_nil_nil_at (P := Tryd.prog) W 33 (by kernel_rfl)
  have HEMP := Lib.hid (show planV emptyA L0 = .agg #[.int .u16 0, .slice none 0 0, .slice none 0 0, .slice none 0 0, .slice none 0 0] from rfl)
  have HPV := Lib.hid hpv
  have HEM := Lib.hid (fun W => same_eq emptyA L0 L0 W (empty_at W) (empty_at W) (Nat.zero_le _) (Nat.zero_le _) (Nat.zero_le _) (Nat.zero_le _) (fun _ h => absurd h List.not_mem_nil) (fun _ h => absurd h List.not_mem_nil))
  rw [HEMP.out] at HEM
  clear hpv hB0 hpb hP hG hW h5 h6
  go_enter Tryd.func7, Tryd.ntmps7
  go_wp2_with fail
  refine (HF.out _ HB0.out).mono ?_
  rintro e w1 ⟨hB, bb, rfl, hall⟩
  have HB1 := Lib.hid (below_two HB0.out hB)
  have HPB1 := Lib.hid (HPB0.out.keep hB)
  have HALL := Lib.hid hall
  clear hB hall
  cases bb
  · go_wp2_with fail
    refine (HAW.out _ HB1.out).mono ?_
    rintro e w2 ⟨rfl, hB⟩
    have HB2 := Lib.hid hB
    clear hB
    go_wp2_with fail
    go_ret
    exact ⟨rfl, below_two HB1.out HB2.out⟩
  by_cases hts : 1000 < tail.size
  · go_wp2_with fail
    refine (HAW.out _ HB1.out).mono ?_
    rintro e w2 ⟨rfl, hB⟩
    have HB2 := Lib.hid hB
    clear hB
    go_wp2_with fail
    go_ret
    exact ⟨rfl, below_two HB1.out HB2.out⟩
  have hs := small_of (HALL.out rfl)
  have HSM := Lib.hid (enc_small (HALL.out rfl))
  obtain ⟨k0, k1, k2, k3, k4⟩ := HPB1.out
  by_cases hf : fitAt P = -1
  · have HFT := Lib.hid hf
    have HE := Lib.hid (HEY.out _ HB1.out hs hf)
    clear hs hf
    go_wp2_with fail
    clear k0 k1 k2 k3 k4
    refine HE.out.mono ?_
    rintro e w2 ⟨v, rfl, hO, hB⟩
    have hft := fits_of HFT.out
    have hbyt := enc_byte HW.out hft
    have hel : (enc P).length ≤ 100000 := HSM.out
    have hpos : 0 < (enc P).length := by
      have : (enc P).length = 4 + (encRest P).length := by rw [enc_rest, List.length_append]; rfl
      omega
    obtain ⟨g, cg, hv, hgb, hby, hsz⟩ := Own.bytes hO hpos hbyt
    subst hv
    have hcap := own_caps hO
    have HB2 := Lib.hid (below_two HB1.out hB)
    have HBY := Lib.hid (fun W (hb : Below w2.heap.size w2 W) => (show At W ⟨g, 0, none⟩ (bytesL (enc P)) from fun i hi => by rw [add_lit]; exact (hb.cell (p := ⟨g, 0 + i, none⟩) (cell_lt' (hby i hi))).trans (hby i hi)))
    obtain ⟨n, hn⟩ : ∃ n : Nat, (n : Int) = at' % ((enc P).length : Int) := ⟨(at' % ((enc P).length : Int)).toNat, by
      rw [Int.toNat_of_nonneg (Int.emod_nonneg _ (by omega))]⟩
    have hnl : n < (enc P).length := by
      have := Int.emod_lt_of_pos at' (b := ((enc P).length : Int)) (by omega)
      omega
    have HCU := Lib.hid (fun W hb c => cut_any HW.out hft hbyt hel hnl ⟨g, 0, none⟩ c W (HBY.out W hb))
    have HTA := Lib.hid (fun A c W h0 hat => tail_any (t := tail) HW.out hft hbyt hel (by omega) h0 A c W hat)
    have hbk := dec_back HW.out hft hbyt
    have HBK := Lib.hid hbk
    obtain ⟨N, hN⟩ : ∃ N, N = (enc P).length := ⟨_, rfl⟩
    rw [← hN] at hnl hpos hel hn hcap ⊢
    have HN := Lib.hid hN
    have hN0 : (0 : Int) < (N : Int) := by omega
    have hN1 : ¬ (N : Int) = 0 := by omega
    have hr0 : 0 ≤ at' % (N : Int) := by omega
    have hr1 : at' % (N : Int) ≤ (cg : Int) := by omega
    clear hO hB hby hbyt hft hbk hgb hsz hN
    go_wp2_with fail
    refine (HAW.out _ HB2.out).mono ?_
    rintro e w3 ⟨rfl, hB⟩
    have HB23 := Lib.hid hB
    have HB3 := Lib.hid (below_two HB2.out hB)
    clear hB
    go_wp2_with fail
    rw [← hn, Int.toNat_natCast]
    refine (HCU.out _ HB23.out _).mono ?_
    rintro e w4 ⟨f, y, rfl, c0, c1, hy0, hy1, hB⟩
    rw [HEMP.out]
    obtain ⟨W, hWd⟩ : ∃ W, W = w4.alloc (.cells #[.int .u16 0, .slice none 0 0, .slice none 0 0, .slice none 0 0, .slice none 0 0] 28) := ⟨_, rfl⟩
    have hb : Below w4.heap.size w4 W := by rw [hWd]; exact (Below.refl _ _).alloc (Nat.le_refl _) _
    have hrow : W.heap[w4.heap.size]? = some (.cells #[.int .u16 0, .slice none 0 0, .slice none 0 0, .slice none 0 0, .slice none 0 0] 28 (0, 0)) := by rw [hWd]; exact heap_alloc_new _ _
    have HR := Lib.hid hrow
    have HB2W := Lib.hid (below_two (below_two HB23.out hB) hb)
    have HBW := Lib.hid (below_two (below_two HB3.out hB) hb)
    have HWF := Lib.hid (why_fail0 f 0 20 y W (HG.out _ HBW.out) (kept c0 hb) (kept c1 hb))
    have HWD := Lib.hid hWd
    clear c0 c1 hB hb hrow hWd
    go_wp2_with fail
    rw [← HWD.out]
    refine HWF.out.mono ?_
    rintro e w5 ⟨rfl, hB⟩
    have HBX5 := Lib.hid hB
    have HB5 := Lib.hid (below_two HBW.out hB)
    have HB25 := Lib.hid (below_two HB2W.out hB)
    have hown := own_lit5 w5
    obtain ⟨i0, hi, hz0, hz1, hz2⟩ := info_parts info5
    have hsz : (bytesL (enc P)).size = N := by rw [bytesL_size, HN.out]
    have HS := Lib.hid hsz
    have hat5 : At (w5.alloc (.cells #[] 5)) ⟨g, 0, none⟩ (bytesL (enc P)) := HBY.out _ (below_two HB25.out ((Below.refl _ _).alloc (Nat.le_refl _) _))
    have HAT5 := Lib.hid hat5
    clear hB hat5 hsz
    go_wp2_with (at_builtin; refine wpList_append_own _ rfl _ _ 31 rfl w5.heap.size 5 i0 (.int .u8 0) 1 1 Tryd.underlying31 hi hz0 hz1 hz2 rfl (by decide) _ _ _ rfl hown ⟨g, 0, none⟩ N cg (cellsOf (bytesL (enc P))) rfl ?c0 ?c1 ?c2 ?c3 ?c4 ?c5 ?_)
    case c0 => rw [cellsOf_length, HS.out]; omega
    case c1 => exact HAT5.out.cells
    case c2 => exact cellsOf_one _
    case c3 => unfold maxLen; omega
    case c4 => omega
    case c5 => simp
    intro v6 w6 hown6 hg6 hnil6
    have hown6 : w6.ownsRow w5.heap.size 5 1 v6 N (cellsOf (bytesL (enc P))) := by simpa using hown6
    have hn6 : v6 ≠ .slice none 0 0 := by first | exact hnil6 | (intro e; exact absurd (hnil6.1 e).1 (by simp))
    have hB6 : Below w5.heap.size w5 w6 := ((Below.refl _ _).alloc (Nat.le_refl _) _).grown hg6 (by simp) (fun k hk => (World.ownsRow.lt hown k hk).1)
    have hsz6 := hB6.size
    clear hown hg6 hnil6
    go_wp2_with (at_builtin; refine Lib.wpList_append_own_string _ rfl _ _ 31 9 rfl w5.heap.size 5 i0 Tryd.underlying31 Tryd.underlying9 hi hz0 hz1 hz2 _ N _ rfl hown6 tail rfl ?d1 ?d2 ?d3 ?_)
    case d1 => unfold maxLen; omega
    case d2 => omega
    case d3 => exact hsz6
    intro v7 w7 hown7 hg7 hnil7
    have hnn : v7 ≠ .slice none 0 0 := by first | exact hnil7 | (intro e; exact absurd (hnil7.1 e).1 hn6)
    have hB7 : Below w5.heap.size w5 w7 := hB6.grown hg7 hsz6 (fun k hk => (World.ownsRow.lt hown6 k hk).1)
    have htz : (bytesL (enc P) ++ tail).size = N + tail.size := by rw [ByteArray.size_append, HS.out]
    have hO : OwnB w7 w5.heap.size v7 (bytesL (enc P) ++ tail) := by
      unfold OwnB
      rw [htz, cellsOf_app]
      exact hown7
    obtain ⟨g7, c7, rfl, _, _, _, _⟩ := hO.form hnn
    have hat : At w7 ⟨g7, 0, none⟩ (bytesL (enc P) ++ tail) := At.of_bytes (OwnB.bytes (base := w5.heap.size) (c := c7) hO)
    rw [htz]
    have HAT := Lib.hid hat
    have HBX7 := Lib.hid (HBX5.out.trans (hB7.mono HBX5.out.size))
    have HB7 := Lib.hid (below_two HB5.out hB7)
    clear hown6 hn6 hB6 hsz6 hown7 hg7 hnil7 hnn hB7 htz hO hat hi hz0 hz1 hz2
    by_cases hem : tail.size = 0
    · have hte : tail.toList.isEmpty = true := empty_yes hem
      have htn : numsOf tail = [] := List.eq_nil_of_length_eq_zero (by rw [numsOf_len]; exact hem)
      have hx : bytesL (enc P) ++ tail = bytesL (enc P) := by rw [bytesL_app, htn, List.append_nil]
      have hat' := HAT.out
      rw [hx] at hat'
      have HT := Lib.hid (decode_ok ⟨g7, 0, none⟩ c7 (bytesL (enc P)) w7 hat' (by rw [HS.out]; omega) HBK.out.1)
      rw [HS.out] at HT
      rw [hem, Nat.add_zero]
      clear htn hx hat'
      go_wp2_with fail
      refine HT.out.mono ?_
      rintro e w8 ⟨M, rfl, hPM, hB⟩
      rw [HBK.out.2, HPV.out M]
      obtain ⟨V, hVd⟩ : ∃ V, V = w8.alloc (.cells #[.int .u16 P.1, .slice M.a1 P.2.1.length M.c1, .slice M.a2 P.2.2.1.length M.c2, .slice M.a3 P.2.2.2.1.length M.c3, .slice M.a4 P.2.2.2.2.length M.c4] 28) := ⟨_, rfl⟩
      have hb : Below w8.heap.size w8 V := by rw [hVd]; exact (Below.refl _ _).alloc (Nat.le_refl _) _
      have HBX8 := Lib.hid (below_two (below_two HBX7.out hB) hb)
      have HB8 := Lib.hid (below_two (below_two HB7.out hB) hb)
      have HVD := Lib.hid hVd
      clear hPM hB hb hVd
      go_wp2_with fail
      rw [← HVD.out]
      refine (why_nil V).mono ?_
      rintro e w9 ⟨rfl, hB⟩
      obtain ⟨z0, z1, z2, z3, z4⟩ := box5 (((below_two HBX8.out hB).block _ (Array.getElem?_eq_some_iff.1 HR.out).1).trans HR.out)
      have HB9 := Lib.hid (below_two HB8.out hB)
      have hy2 : ¬ (n : Int) < y := by omega
      have hy3 : ¬ y < (n : Int) - 3 := by omega
      clear hB
      go_wp2_with fail
      refine (HEM.out _).mono ?_
      rintro e w10 ⟨rfl, hB⟩
      have HB10 := Lib.hid (below_two HB9.out hB)
      clear hB
      go_wp2_with fail
      go_ret
      exact ⟨rfl, HB10.out⟩
    · have hte : tail.toList.isEmpty = false := empty_no hem
      have HT := Lib.hid (HTA.out ⟨g7, 0, none⟩ c7 w7 (by omega) HAT.out)
      rw [← HN.out] at HT
      go_wp2_with fail
      refine HT.out.mono ?_
      rintro e w8 ⟨f2, rfl, c0, c1, hB⟩
      rw [HEMP.out]
      obtain ⟨V, hVd⟩ : ∃ V, V = w8.alloc (.cells #[.int .u16 0, .slice none 0 0, .slice none 0 0, .slice none 0 0, .slice none 0 0] 28) := ⟨_, rfl⟩
      have hb : Below w8.heap.size w8 V := by rw [hVd]; exact (Below.refl _ _).alloc (Nat.le_refl _) _
      have HBX8 := Lib.hid (below_two (below_two HBX7.out hB) hb)
      have hB8 := below_two (below_two HB7.out hB) hb
      have HB8 := Lib.hid hB8
      have HWT := Lib.hid (why_fail0 f2 0 21 _ V (HG.out _ hB8) (kept c0 hb) (kept c1 hb))
      have HVD := Lib.hid hVd
      clear c0 c1 hB hb hVd hB8
      go_wp2_with fail
      rw [← HVD.out]
      refine HWT.out.mono ?_
      rintro e w9 ⟨rfl, hB⟩
      obtain ⟨z0, z1, z2, z3, z4⟩ := box5 (((below_two HBX8.out hB).block _ (Array.getElem?_eq_some_iff.1 HR.out).1).trans HR.out)
      have HB9 := Lib.hid (below_two HB8.out hB)
      have hy2 : ¬ (n : Int) < y := by omega
      have hy3 : ¬ y < (n : Int) - 3 := by omega
      clear hB
      go_wp2_with fail
      refine (HEM.out _).mono ?_
      rintro e w10 ⟨rfl, hB⟩
      have HB10 := Lib.hid (below_two HB9.out hB)
      clear hB
      go_wp2_with fail
      go_ret
      exact ⟨rfl, HB10.out⟩
  · have HE := Lib.hid (HEN.out _ HB1.out hs hf)
    clear hs hf
    go_wp2_with fail
    clear k0 k1 k2 k3 k4
    refine HE.out.mono ?_
    rintro e w2 ⟨f, rfl, -, -, hB⟩
    have HB2 := Lib.hid (below_two HB1.out hB)
    clear hB
    go_wp2_with fail
    refine (HAW.out _ HB2.out).mono ?_
    rintro e w3 ⟨rfl, hB⟩
    have HB3 := Lib.hid (below_two HB2.out hB)
    clear hB
    go_wp2_with fail
    refine (HAW.out _ HB3.out).mono ?_
    rintro e w4 ⟨rfl, hB⟩
    have HB4 := Lib.hid hB
    clear hB
    go_wp2_with fail
    go_ret
    exact ⟨rfl, below_two HB3.out HB4.out⟩
end Go.Proofs.YtkgkjkghdllkhaaDoor
