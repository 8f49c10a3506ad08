/-
  The given package's bytes as strings: two, one.
-/
import Derived.Test.YtkgkjkghdllkhaaDoorMem
namespace Go.Proofs.YtkgkjkghdllkhaaDoor
open Go.RowKit

/-- Bytes as a string. -/
def sB (l : List Int) : Value := .string (bytesL l)
theorem bytesL_append (a b : List Int) : bytesL a ++ bytesL b = bytesL (a ++ b) := by
  apply ByteArray.ext
  rw [ByteArray.data_append]
  unfold bytesL
  simp
def u8s (l : List Int) : List UInt8 := l.map fun z => UInt8.ofNat z.toNat
theorem u8s_at {l : List Int} (h : ∀ z ∈ l, byte z) {j : Nat} (hj : j < (u8s l).length) : ((u8s l)[j].toNat : Int) = l.getD j 0 := by
  unfold u8s at hj ⊢
  rw [List.length_map] at hj
  rw [List.getElem_map, List.getD_eq_getElem?_getD, List.getElem?_eq_getElem hj, Option.getD_some]
  obtain ⟨h0, h1⟩ := h _ (List.getElem_mem hj)
  rw [UInt8.toNat_ofNat']
  omega
theorem conv_lit (l : List Int) (h : ∀ z ∈ l, byte z) (W : World) (b c : Nat) (hc : ∀ j, j < l.length → W.cell? ⟨b, j, none⟩ = some (.int .u8 (l.getD j 0))) :
    (convert 31 9 (.slice (some ⟨b, 0, none⟩) l.length c)).run Tryd.prog W = .ok (sB l) W := by
  have e : (u8s l).length = l.length := by unfold u8s; simp
  have := run_convert_bytes_back (P := Tryd.prog) W 31 9 5 ⟨b, 0, none⟩ c (u8s l) Tryd.underlying31 Tryd.underlying5 Tryd.underlying9 (fun j hj => by
    rw [u8s_at h hj, show (⟨b, 0, none⟩ : Addr).add j = ⟨b, j, none⟩ by unfold Addr.add; split <;> simp_all]
    exact hc j (by omega))
  rw [e] at this
  exact this
set_option maxHeartbeats 1000000 in
theorem str_one (n : Int) (w : World) (hn : byte n) : Calls Tryd.prog 26 #[.int .u8 n] w fun e w' => e = .returned (sB [n]) ∧ Below w.heap.size w w' := by
  have hcv := conv_lit [n] (by simpa using hn) (w.alloc (.cells #[.int .u8 n] 5)) w.heap.size 1 (fun j hj => by
    obtain rfl : j = 0 := by simpa using hj
    simp)
  simp only [List.length_cons, List.length_nil, Nat.zero_add] at hcv
  go_enter Tryd.func26, Tryd.ntmps26
  go_wp2_with fail
  go_ret
  exact ⟨rfl, (Below.refl _ _).alloc (Nat.le_refl _) _⟩
set_option maxHeartbeats 1000000 in
theorem str_two (n : Int) (w : World) (hn : wide n) : Calls Tryd.prog 25 #[.int .i64 n] w fun e w' => e = .returned (sB (two n)) ∧ Below w.heap.size w w' := by
  obtain ⟨h0, h1⟩ := hn
  have d1 : Int.tdiv n 256 = n / 256 := Int.tdiv_eq_ediv_of_nonneg h0
  have d2 : Int.tmod n 256 = n % 256 := Int.tmod_eq_emod_of_nonneg h0
  obtain ⟨q, hq⟩ : ∃ q, q = n / 256 := ⟨_, rfl⟩
  obtain ⟨r, hr⟩ : ∃ r, r = n % 256 := ⟨_, rfl⟩
  have q0 : 0 ≤ q ∧ q ≤ 255 := by omega
  have r0 : 0 ≤ r ∧ r ≤ 255 := by omega
  unfold two
  rw [← hq, ← hr]
  rw [← hq] at d1
  rw [← hr] at d2
  have hcv := conv_lit [q, r] (by intro z hz; simp at hz; rcases hz with rfl | rfl <;> first | exact q0 | exact r0) (w.alloc (.cells #[.int .u8 q, .int .u8 r] 5)) w.heap.size 2 (fun j hj => by
    match j, hj with
    | 0, _ => simp
    | 1, _ => simp)
  simp only [List.length_cons, List.length_nil, Nat.zero_add] at hcv
  obtain ⟨q0, q1⟩ := q0
  obtain ⟨r0, r1⟩ := r0
  have HQ := Lib.hid hq
  have HR := Lib.hid hr
  clear hq hr
  go_enter Tryd.func25, Tryd.ntmps25
  go_wp2_with fail
  go_ret
  exact ⟨rfl, (Below.refl _ _).alloc (Nat.le_refl _) _⟩
end Go.Proofs.YtkgkjkghdllkhaaDoor
