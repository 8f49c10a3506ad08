/-
  Bytes of a plan that are cut off anywhere are too short, at a place near by: pure.
-/
import Derived.Test.YtkgkjkghdllkhaaDoorSpecB
namespace Go.Proofs.YtkgkjkghdllkhaaDoor

section
variable {α β : Type} {s : ByteArray}

/-- A decoder stops at the bytes' end, or fails within two of it. -/
def Near (s : ByteArray) (f : St → α × St) : Prop :=
  ∀ k, k ≤ s.size → (f (k, false)).2.1 ≤ s.size ∧ ((f (k, false)).2.2 = true → s.size < (f (k, false)).2.1 + 2)
theorem near_ret (x : α) : Near s (ret x) := fun k hk => ⟨hk, fun h => by cases h⟩
theorem near_bnd {f : St → α × St} {g : α → St → β × St} (hf : Near s f) (hg : ∀ x, Near s (g x)) (hs : ∀ x, Stay (g x)) : Near s (bnd f g) := fun k hk => by
  unfold bnd
  obtain ⟨h1, h2⟩ := hf k hk
  obtain ⟨k1, b1, hk1⟩ : ∃ k1 b1, (f (k, false)).2 = (k1, b1) := ⟨_, _, rfl⟩
  rw [hk1] at h1 h2 ⊢
  cases b1
  · exact hg _ k1 h1
  · rw [hs]
    exact ⟨h1, fun _ => h2 rfl⟩
theorem near_d8 : Near s (d8 s) := fun k hk => by
  by_cases h : (s.size : Int) - k < 1
  · have hl := lacks_yes h false
    simp only [d8, nextAt, hl, if_true]
    exact ⟨hk, fun _ => by omega⟩
  · have hl : lacks s k false 1 = false := lacks_ok (by omega)
    simp only [d8, nextAt, hl]
    refine ⟨?_, fun h => by cases h⟩
    simp
    omega
theorem near_d16 : Near s (d16 s) := fun k hk => by
  by_cases h : (s.size : Int) - k < 2
  · have hl := lacks_yes h false
    simp only [d16, nextAt, hl, if_true]
    exact ⟨hk, fun _ => by omega⟩
  · have hl : lacks s k false 2 = false := lacks_ok (by omega)
    simp only [d16, nextAt, hl]
    refine ⟨?_, fun h => by cases h⟩
    simp
    omega
theorem near_rep {f : St → α × St} (hf : Near s f) (hs : Stay f) : ∀ n, Near s (rep f n)
  | 0 => fun k hk => ⟨hk, fun h => by cases h⟩
  | n + 1 => fun k hk => by
    rw [rep_cons]
    obtain ⟨h1, h2⟩ := hf k hk
    obtain ⟨k1, b1, hk1⟩ : ∃ k1 b1, (f (k, false)).2 = (k1, b1) := ⟨_, _, rfl⟩
    rw [hk1] at h1 h2 ⊢
    cases b1
    · exact near_rep hf hs n k1 h1
    · show (rep f n (k1, true)).2.1 ≤ s.size ∧ ((rep f n (k1, true)).2.2 = true → s.size < (rep f n (k1, true)).2.1 + 2)
      rw [stay_rep hs n]
      exact ⟨h1, fun _ => h2 rfl⟩
/-- Both at once. -/
def NS (s : ByteArray) (f : St → α × St) : Prop := Near s f ∧ Stay f
theorem ns_ret (x : α) : NS s (ret x) := ⟨near_ret x, stay_ret x⟩
theorem ns_bnd {f : St → α × St} {g : α → St → β × St} (hf : NS s f) (hg : ∀ x, NS s (g x)) : NS s (bnd f g) :=
  ⟨near_bnd hf.1 (fun x => (hg x).1) fun x => (hg x).2, stay_bnd hf.2 fun x => (hg x).2⟩
theorem ns_rep {f : St → α × St} (hf : NS s f) (n : Nat) : NS s (rep f n) := ⟨near_rep hf.1 hf.2 n, stay_rep hf.2 n⟩
theorem ns_d8 : NS s (d8 s) := ⟨near_d8, stay_d8 s⟩
theorem ns_d16 : NS s (d16 s) := ⟨near_d16, stay_d16 s⟩
theorem ns_win : NS s (dWin s) := ns_bnd ns_d16 fun _ => ns_bnd ns_d16 fun _ => ns_bnd ns_d8 fun _ => ns_bnd ns_d8 fun _ => ns_ret _
theorem ns_core : NS s (dCore s) := ns_bnd ns_d16 fun _ => ns_rep ns_win _
theorem ns_sem : NS s (dSem s) := ns_bnd ns_d8 fun _ => ns_bnd ns_d8 fun _ => ns_ret _
theorem ns_pair : NS s (dPair s) := ns_bnd ns_d8 fun _ => ns_bnd ns_d8 fun _ => ns_ret _
theorem ns_chan : NS s (dChan s) := ns_bnd ns_d8 fun _ => ns_bnd ns_d8 fun _ => ns_bnd ns_d8 fun _ => ns_bnd ns_d8 fun _ => ns_bnd ns_d8 fun _ => ns_bnd ns_d16 fun _ => ns_ret _
theorem ns_part : NS s (dPart s) := ns_bnd ns_d8 fun _ => ns_bnd (ns_rep ns_sem _) fun _ => ns_bnd ns_d8 fun _ => ns_bnd ns_d8 fun _ => ns_bnd (ns_rep ns_d8 _) fun _ =>
  ns_bnd ns_d8 fun _ => ns_bnd ns_d8 fun _ => ns_bnd ns_d8 fun _ => ns_ret _
theorem ns_plan : NS s (dPlan s) := ns_bnd ns_d16 fun _ => ns_bnd ns_d8 fun _ => ns_bnd ns_d8 fun _ => ns_bnd ns_d8 fun _ => ns_bnd ns_d8 fun _ =>
  ns_bnd (ns_rep ns_core _) fun _ => ns_bnd (ns_rep ns_part _) fun _ => ns_bnd (ns_rep ns_chan _) fun _ => ns_bnd (ns_rep ns_pair _) fun _ => ns_ret _
end

/-- The numbers of bytes made of numbers. -/
theorem sl_bytesL {l : List Int} (h : ∀ z ∈ l, byte z) {m : Nat} (hm : m ≤ l.length) : sl (bytesL l) 0 m = l.take m := by
  apply List.ext_getElem
  · rw [sl_length, List.length_take]
    omega
  · intro i h1 h2
    rw [sl_length] at h1
    simp only [sl, List.getElem_map, List.getElem_range, Nat.zero_add, List.getElem_take]
    rw [byteI_bytesL h (by omega), List.getD_eq_getElem?_getD, List.getElem?_eq_getElem (by omega)]
    rfl
/-- A plan's bytes that are cut off are too short, at a place near by. -/
theorem dec_cut {p : PlanA} (hw : WfPlan p) (hf : Fits p) (hb : ∀ z ∈ enc p, byte z) {n : Nat} (hn : n < (enc p).length) :
    decE (bytesL ((enc p).take n)) = 20 ∧ decA (bytesL ((enc p).take n)) ≤ n ∧ (n : Int) - 3 ≤ decA (bytesL ((enc p).take n)) := by
  have hbt : ∀ z ∈ (enc p).take n, byte z := fun z hz => hb z (List.mem_of_mem_take hz)
  have hsz : (bytesL ((enc p).take n)).size = n := by rw [bytesL_size, List.length_take]; omega
  by_cases h4 : n < 4
  · unfold decE decA
    rw [if_pos (by omega), if_pos (by omega)]
    omega
  have hm : magicB (bytesL ((enc p).take n)) = true := by
    have h0 : ∀ i, i < 4 → byteI (bytesL ((enc p).take n)) i = magicL.getD i 0 := fun i hi => by
      rw [byteI_bytesL hbt (by rw [List.length_take]; omega), enc_rest, List.getD_eq_getElem?_getD, List.getElem?_take, if_pos (by omega), List.getElem?_append_left (by exact hi), List.getD_eq_getElem?_getD]
    unfold magicB
    exact decide_eq_true ⟨h0 0 (by decide), h0 1 (by decide), h0 2 (by decide), h0 3 (by decide)⟩
  obtain ⟨n1, n2⟩ := (ns_plan (s := bytesL ((enc p).take n))).1 4 (by omega)
  have hbad : (dPlan (bytesL ((enc p).take n)) (4, false)).2.2 = true := by
    rcases Bool.eq_false_or_eq_true (dPlan (bytesL ((enc p).take n)) (4, false)).2.2 with h | h
    · exact h
    exfalso
    obtain ⟨a1, a2, a3, a4, a5⟩ := sound_plan (s := bytesL ((enc p).take n)) 4 (by omega) h
    clear n1 n2
    generalize dPlan (bytesL ((enc p).take n)) (4, false) = D at h a1 a2 a3 a4 a5
    obtain ⟨x, m, b⟩ := D
    simp only at h a1 a2 a3 a4 a5
    subst h
    have he : enc x = (enc p).take m := by
      rw [← a3, ← magic_sl hm, sl_append _ (by omega) a1, sl_bytesL hbt (by rw [List.length_take]; omega), List.take_take]
      congr 1
      omega
    have hxb : ∀ z ∈ enc x, byte z := fun z hz => hb z (List.mem_of_mem_take (he ▸ hz))
    have hdb : ∀ z ∈ (enc p).drop m, byte z := fun z hz => hb z (List.mem_of_mem_drop hz)
    have ht := dec_tail a5 a4 hxb hdb (by
      intro hnil
      have hl := congrArg List.length hnil
      rw [List.length_drop] at hl
      simp at hl
      omega)
    rw [he, List.take_append_drop, (dec_back hw hf hb).1] at ht
    exact absurd ht.1 (by decide)
  have n2' := n2 hbad
  unfold decE decA
  rw [if_neg (by omega), if_neg (by rw [hm]; simp), if_pos hbad, if_neg (by omega), if_neg (by rw [hm]; simp), if_pos hbad]
  omega
/-- A cut of bytes of numbers. -/
theorem bytesL_take (l : List Int) (n : Nat) : (bytesL l).extract 0 n = bytesL (l.take n) := by
  apply ByteArray.ext
  apply Array.toList_inj.1
  simp [bytesL, ByteArray.data_extract, List.map_take]
end Go.Proofs.YtkgkjkghdllkhaaDoor
