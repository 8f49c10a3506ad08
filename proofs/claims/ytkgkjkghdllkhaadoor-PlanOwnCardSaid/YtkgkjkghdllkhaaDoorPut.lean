/-
  Encode's helpers: a core's windows and a partition behind bytes of the call's own.
-/
import Derived.Test.YtkgkjkghdllkhaaDoorMem
import Derived.Deep.RegionHeld3
import Derived.RegionTactic
import Derived.Outline
namespace Go.Proofs.YtkgkjkghdllkhaaDoor
open Go.RowKit

theorem WinsAt.cells {w : World} {b o : Nat} {ws : List WinA} (h : WinsAt w (some ⟨b, o, none⟩) ws) {k : Nat} (hk : k < ws.length) {x : WinA} (hx : x = ws.getD k dW) :
    w.cell? ⟨b, o + k * 4, none⟩ = some (.int .u16 x.1) ∧ w.cell? ⟨b, o + k * 4 + 1, none⟩ = some (.int .u16 x.2.1) ∧ w.cell? ⟨b, o + k * 4 + 2, none⟩ = some (.int .u8 x.2.2.1) ∧ w.cell? ⟨b, o + k * 4 + 3, none⟩ = some (.int .u8 x.2.2.2) := by
  subst hx
  exact ⟨Arr.at h (j := 0) hk rfl, Arr.at h (j := 1) hk rfl, Arr.at h (j := 2) hk rfl, Arr.at h (j := 3) hk rfl⟩
theorem Own.below {w w' : World} {base : Nat} {v : Value} {l : List Int} (h : Own w base v l) (hb : base ≤ w.heap.size) (hg : w.grownBy w' v.ownBlock) {w0 : World} (h0 : Below base w0 w) : Below base w0 w' := h0.grown hg hb h.lo

theorem box4 {w : World} {h t : Nat} {a b c d : Value} (hr : w.heap[h]? = some (.cells #[a, b, c, d] t (0, 0))) :
    w.heap[h]? = some (.cells #[a, b, c, d] t (0, 0)) ∧ w.cell? ⟨h, 0, none⟩ = some a ∧ w.cell? ⟨h, 1, none⟩ = some b ∧ w.cell? ⟨h, 2, none⟩ = some c ∧ w.cell? ⟨h, 3, none⟩ = some d :=
  ⟨hr, by rw [cell_of_row w h 0 _ t (0, 0) hr]; rfl, by rw [cell_of_row w h 1 _ t (0, 0) hr]; rfl, by rw [cell_of_row w h 2 _ t (0, 0) hr]; rfl, by rw [cell_of_row w h 3 _ t (0, 0) hr]; rfl⟩
theorem box2 {w : World} {h t : Nat} {a b : Value} (hr : w.heap[h]? = some (.cells #[a, b] t (0, 0))) :
    w.heap[h]? = some (.cells #[a, b] t (0, 0)) ∧ w.cell? ⟨h, 0, none⟩ = some a ∧ w.cell? ⟨h, 1, none⟩ = some b :=
  ⟨hr, by rw [cell_of_row w h 0 _ t (0, 0) hr]; rfl, by rw [cell_of_row w h 1 _ t (0, 0) hr]; rfl⟩
theorem Own.drew {w : World} {base : Nat} {v : Value} {l : List Int} (h : Own w base v l) : Own w.drew base v l := World.ownsRow.drew h
/-- append of some bytes to bytes of the call's own. -/
theorem wpList_put {w : World} {ops : Array Oper} {rest : List Oper} {o : Oper} {a : Act} {Q : Exit → Act → World → Prop} (hgd : o.guard = none) (s x : Operand)
    (ho : o.op = .call { callee := .builtin .append, args := #[s, x], argTypes := #[31, 31] }) (base : Nat) (v : Value) (l : List Int) (hs : a.eval s = v) (hown : Own w base v l)
    (ad : Addr) (m c : Nat) (news : List Int) (hx : a.eval x = .slice (some ad) m c) (hl : news.length = m) (hnews : ∀ j u, (news.map bV)[j]? = some u → w.cell? (ad.add j) = some u)
    (hn : l.length + m ≤ 2000000000) (hbase : base ≤ w.heap.size)
    (h : ∀ v' w', Own w' base v' (l ++ news) → w.grownBy w' v.ownBlock → (v' = .slice none 0 0 ↔ v = .slice none 0 0 ∧ m = 0) → wpList Tryd.prog ops Q rest (a.put o.dst v') w') : wpList Tryd.prog ops Q (o :: rest) a w := by
  obtain ⟨i0, hi, hz0, hz1, hz2⟩ := info_parts info5
  refine wpList_append_own w hgd s x 31 ho base 5 i0 (.int .u8 0) 1 1 Tryd.underlying31 hi hz0 hz1 hz2 rfl (by decide) v l.length (l.map bV) hs hown ad m c (news.map bV) hx (by simpa using hl) hnews (bV_one _) (by unfold maxLen; omega) (by omega) hbase ?_
  intro v' w' h1 h2 h3
  refine h v' w' ?_ h2 h3
  show w'.ownsRow _ _ _ _ _ _
  rw [List.length_append, hl, List.map_append]
  exact h1
theorem news2 {w : World} {x y : Int} (t : TypeId) : ∀ j u, (([x, y] : List Int).map bV)[j]? = some u → (w.alloc (.cells #[.int .u8 x, .int .u8 y] t)).cell? ((⟨w.heap.size, 0, none⟩ : Addr).add j) = some u := fun j u hu => by
  rw [add_lit, Nat.zero_add, World.cell?_alloc_at _ _ _ _ rfl]
  match j, hu with
  | 0, hu => exact hu
  | 1, hu => exact hu
/-- Behind k windows. -/
def CoreRel (base : Nat) (l : List Int) (ws : List WinA) (w : World) (v i : Value) (wr : World) : Prop :=
  ∃ k : Nat, k ≤ ws.length ∧ i = .int .i64 k ∧ Own wr base v (l ++ (ws.take k).flatMap encWin) ∧ Below base w wr

set_option maxHeartbeats 4000000 in
set_option maxRecDepth 100000 in
theorem putCore_any (base : Nat) (v : Value) (l : List Int) (A : Option Addr) (c : Nat) (ws : List WinA) (w : World) (hO : Own w base v l) (hb : base ≤ w.heap.size) (hA : WinsAt w A ws)
    (hlt : 0 < ws.length → ∀ b o, A = some ⟨b, o, none⟩ → b < base) (hw : ∀ x ∈ ws, WfWin x) (hn : ws.length ≤ 65535) (hl : l.length + (encCore ws).length ≤ 1000000000) :
    Calls Tryd.prog 23 #[v, .slice A ws.length c] w fun e w' => ∃ v', e = .returned v' ∧ Own w' base v' (l ++ encCore ws) ∧ Below base w w' := by
  obtain ⟨i0, hi, hz0, hz1, hz2⟩ := info_parts info5
  have HA := Lib.hid hA
  have HW := Lib.hid hw
  have HLT := Lib.hid hlt
  have hl0 : l.length ≤ 1000000000 := by omega
  have HL : Hid (l.length + 2 + (ws.flatMap encWin).length ≤ 1000000000) := by
    show _ ≤ _
    simp [encCore, two] at hl
    simp
    omega
  have HP := Lib.hid (putTwo_any base v l ws.length w hO hb (by omega) (by omega) hl0)
  have HO := Lib.hid hO
  clear hO hA hw hlt hl
  go_enter Tryd.func23, Tryd.ntmps23
  go_wp2_with (go_at_call 22; refine HP.out.mono ?_; rintro e w1 ⟨v1, rfl, hO1, hG1⟩; have HO1 := Lib.hid hO1; have HB1 := Lib.hid (HO.out.below hb hG1 (Below.refl _ _)); clear hO1 hG1)
  have hs1 := HB1.out.size
  go_loopw [0, 14] (fun v i wr => CoreRel base (l ++ two ws.length) ws w v i wr) (fun _ i _ => ws.length - (intOf i).toNat)
  case atStart => exact ⟨0, Nat.zero_le _, rfl, by simpa using HO1.out, HB1.out⟩
  case round =>
    obtain ⟨k, hk, rfl, hO, hB⟩ := hrel
    have HO := Lib.hid hO
    have HB := Lib.hid hB
    have hs := hB.size
    clear hO hB
    by_cases hlt : k < ws.length
    · obtain ⟨b, o, rfl⟩ := HA.out.head hlt
      obtain ⟨⟨x1, x2, x3, x4⟩, hx⟩ : ∃ x, x = ws.getD k dW := ⟨_, rfl⟩
      obtain ⟨c0, c1, c2, c3⟩ := WinsAt.cells (HA.out.below HB.out HLT.out) hlt hx
      simp only at c0 c1 c2 c3
      obtain ⟨⟨a1, a2⟩, ⟨a3, a4⟩, _, _⟩ : WfWin (x1, x2, x3, x4) := hx ▸ HW.out _ (getD_mem dW hlt)
      simp only at a1 a2 a3 a4
      have HE : Hid ((ws.take (k + 1)).flatMap encWin = (ws.take k).flatMap encWin ++ encWin (x1, x2, x3, x4)) := by
        show _ = _
        rw [take_succ_flat encWin ws k dW hlt, ← hx]
      have hlen : ((ws.take (k + 1)).flatMap encWin).length ≤ (ws.flatMap encWin).length := flat_le _ _ _
      rw [HE.out, List.length_append, show (encWin (x1, x2, x3, x4)).length = 6 from rfl] at hlen
      have hL := HL.out
      have HLN : Hid ((l ++ two ws.length ++ (ws.take k).flatMap encWin).length + 6 ≤ 1000000000) := by
        show _ ≤ _
        rw [List.length_append, List.length_append, show (two (ws.length : Int)).length = 2 from rfl]
        omega
      clear hx hlen hL
      obtain ⟨L, hLe⟩ : ∃ L, L = l ++ two ws.length ++ (ws.take k).flatMap encWin := ⟨_, rfl⟩
      rw [← hLe] at HO HLN
      have HLE := Lib.hid hLe
      clear hLe
      go_wp2_with fail
      go_region_held3 (fun w' => w'.heap[wr.heap.size]? = some (.cells #[.int .u16 x1, .int .u16 x2, .int .u8 x3, .int .u8 x4] 51 (0, 0)) ∧ w'.cell? ⟨wr.heap.size, 0, none⟩ = some (.int .u16 x1) ∧ w'.cell? ⟨wr.heap.size, 1, none⟩ = some (.int .u16 x2) ∧
          w'.cell? ⟨wr.heap.size, 2, none⟩ = some (.int .u8 x3) ∧ w'.cell? ⟨wr.heap.size, 3, none⟩ = some (.int .u8 x4))
        (first | exact box4 (heap_alloc_new _ _) | exact box4 hK)
        (first
          | (go_at_call 22; refine (putTwo_any base v2 _ x2 _ HO2.out (by omega) a3 a4 HLN2.out).mono ?_; rintro e w3 ⟨v3, rfl, hO3, hG3⟩
             have hK3 := (hG3.block wr.heap.size (by omega) (Own.ne HO2.out hK (by decide))).trans hK
             have HO3 := Lib.hid hO3
             have HB3 := Lib.hid (HO2.out.below (by omega) hG3 HB2.out)
             clear hK
             have hK := hK3
             clear hK3 hO3 hG3 HO2 HB2)
          | (go_at_call 22; refine (putTwo_any base u0 L x1 _ ((HO.out.alloc (.cells #[.int .u16 x1, .int .u16 x2, .int .u8 x3, .int .u8 x4] 51)).drew) (by simp; omega) a1 a2 (by have := HLN.out; omega)).mono ?_; rintro e w2 ⟨v2, rfl, hO2, hG2⟩
             have hK := (hG2.block wr.heap.size (by simp) (Own.ne ((HO.out.alloc (.cells #[.int .u16 x1, .int .u16 x2, .int .u8 x3, .int .u8 x4] 51)).drew) (heap_alloc_new wr (.cells #[.int .u16 x1, .int .u16 x2, .int .u8 x3, .int .u8 x4] 51)) (by decide))).trans (heap_alloc_new wr (.cells #[.int .u16 x1, .int .u16 x2, .int .u8 x3, .int .u8 x4] 51))
             have HO2 := Lib.hid hO2
             have HB2 := Lib.hid (((HO.out.alloc (.cells #[.int .u16 x1, .int .u16 x2, .int .u8 x3, .int .u8 x4] 51)).drew).below (by simp; omega) hG2 (((HB.out.alloc (by omega) (.cells #[.int .u16 x1, .int .u16 x2, .int .u8 x3, .int .u8 x4] 51))).drew))
             have hs2 := hG2.size
             simp at hs2
             have HLN2 : Hid ((L ++ two x1).length ≤ 1000000000) := by
               show _ ≤ _
               have := HLN.out
               rw [List.length_append, show (two x1).length = 2 from rfl]
               omega
             clear hO2 hG2))
      obtain ⟨_, k0, k1, k2, k3⟩ := box4 hK
      have hs3 : wr.heap.size < w3.heap.size := (Array.getElem?_eq_some_iff.1 hK).1
      clear hK
      go_wp2_with (at_builtin; refine wpList_put rfl _ _ rfl base v3 _ rfl (HO3.out.alloc _) ⟨w3.heap.size, 0, none⟩ 2 2 [x3, x4] rfl rfl (news2 5) (by have := HLN.out; simp [two]; omega) (by simp; omega) ?_)
      intro v4 w4 hO4 hG4 _
      have HO4 := Lib.hid hO4
      have HB4 := Lib.hid ((HO3.out.alloc _).below (by simp; omega) hG4 (HB3.out.alloc (by omega) _))
      clear hO4 hG4
      go_wp2
      go_roundw
      case rel => exact ⟨k + 1, by omega, by go_num, by rw [HE.out]; have := HO4.out; rw [HLE.out] at this; simpa [encWin] using this, HB4.out⟩
      case measure => simp [intOf]; omega
    · have hk' : k = ws.length := by omega
      subst hk'
      go_wp2
      go_ret
      refine ⟨_, rfl, ?_, HB.out⟩
      have := HO.out
      rw [List.take_length] at this
      simpa [encCore] using this
end Go.Proofs.YtkgkjkghdllkhaaDoor
