/-
  Encode's helper for a partition: its bytes behind bytes of the call's own.
-/
import Derived.Test.YtkgkjkghdllkhaaDoorPut
import Derived.WalkSpells
namespace Go.Proofs.YtkgkjkghdllkhaaDoor
open Go.RowKit

theorem news1 {w : World} {x : Int} (t : TypeId) : ∀ j u, (([x] : List Int).map bV)[j]? = some u → (w.alloc (.cells #[.int .u8 x] t)).cell? ((⟨w.heap.size, 0, none⟩ : Addr).add j) = some u := fun j u hu => by
  rw [add_lit, Nat.zero_add, World.cell?_alloc_at _ _ _ _ rfl]
  match j, hu with
  | 0, hu => exact hu
theorem box6 {w : World} {h t : Nat} {a b c d e f : Value} (hr : w.heap[h]? = some (.cells #[a, b, c, d, e, f] t (0, 0))) :
    w.heap[h]? = some (.cells #[a, b, c, d, e, f] t (0, 0)) ∧ w.cell? ⟨h, 0, none⟩ = some a ∧ w.cell? ⟨h, 1, none⟩ = some b ∧ w.cell? ⟨h, 2, none⟩ = some c ∧ w.cell? ⟨h, 3, none⟩ = some d ∧ w.cell? ⟨h, 4, none⟩ = some e ∧ w.cell? ⟨h, 5, none⟩ = some f :=
  ⟨hr, by rw [cell_of_row w h 0 _ t (0, 0) hr]; rfl, by rw [cell_of_row w h 1 _ t (0, 0) hr]; rfl, by rw [cell_of_row w h 2 _ t (0, 0) hr]; rfl, by rw [cell_of_row w h 3 _ t (0, 0) hr]; rfl, by rw [cell_of_row w h 4 _ t (0, 0) hr]; rfl, by rw [cell_of_row w h 5 _ t (0, 0) hr]; rfl⟩
theorem SemsAt.cells {w : World} {b o : Nat} {ws : List SemA} (h : SemsAt w (some ⟨b, o, none⟩) ws) {k : Nat} (hk : k < ws.length) {x : SemA} (hx : x = ws.getD k dS) :
    w.cell? ⟨b, o + k * 2, none⟩ = some (.int .u8 x.1) ∧ w.cell? ⟨b, o + k * 2 + 1, none⟩ = some (.int .u8 x.2) := by
  subst hx
  exact ⟨Arr.at h (j := 0) hk rfl, Arr.at h (j := 1) hk rfl⟩
theorem BytesAt.cell {w : World} {b o : Nat} {ws : List Int} (h : BytesAt w (some ⟨b, o, none⟩) ws) {k : Nat} (hk : k < ws.length) : w.cell? ⟨b, o + k * 1, none⟩ = some (.int .u8 (ws.getD k 0)) :=
  Arr.at h (j := 0) hk rfl
theorem row_alloc {w : World} {g : Nat} {o : Obj} (h : w.heap[g]? = some o) (o2 : Obj) : (w.alloc o2).heap[g]? = some o :=
  (heap_alloc_old w o2 (Array.getElem?_eq_some_iff.1 h).1).trans h
theorem row_grown {w w' : World} {g t base : Nat} {v : Value} {l : List Int} {cs : Array Value} {fr : Nat × Nat} (h : w.heap[g]? = some (.cells cs t fr)) (hO : Own w base v l) (hG : w.grownBy w' v.ownBlock) (ht : t ≠ 5) :
    w'.heap[g]? = some (.cells cs t fr) := (hG.block g (Array.getElem?_eq_some_iff.1 h).1 (hO.ne h ht)).trans h
theorem BytesAt.cells {w : World} {A : Addr} {ws : List Int} (h : BytesAt w (some A) ws) : ∀ j u, (ws.map bV)[j]? = some u → w.cell? (A.add j) = some u := fun j u hu => by
  rw [List.getElem?_map] at hu
  obtain ⟨z, hz, rfl⟩ := Option.map_eq_some_iff.1 hu
  have hj : j < ws.length := (List.getElem?_eq_some_iff.1 hz).1
  obtain ⟨b, o, e, hc⟩ := h j hj
  injection e with e
  subst e
  have := hc 0 _ rfl
  rw [List.getD_eq_getElem?_getD, hz] at this
  rw [add_lit]
  simpa using this
/-- Behind k semaphores. -/
def PartRel (base : Nat) (l : List Int) (ws : List SemA) (w : World) (g : Nat) (o : Obj) (v i : Value) (wr : World) : Prop :=
  ∃ k : Nat, k ≤ ws.length ∧ i = .int .i64 k ∧ Own wr base v (l ++ (ws.take k).flatMap encSem) ∧ Below base w wr ∧ wr.heap[g]? = some o

set_option maxHeartbeats 4000000 in
set_option maxRecDepth 100000 in
theorem putPart_any (base : Nat) (v : Value) (l : List Int) (S P : Option Addr × Nat) (q : PartA) (w : World) (hO : Own w base v l) (hb : base ≤ w.heap.size) (hS : SemsAt w S.1 q.1) (hP : BytesAt w P.1 q.2.2.1)
    (hS1 : 0 < q.1.length → ∀ b o, S.1 = some ⟨b, o, none⟩ → b < base) (hP1 : 0 < q.2.2.1.length → ∀ b o, P.1 = some ⟨b, o, none⟩ → b < base) (hP0 : P.1 = none → P.2 = 0) (hn : q.1.length ≤ 255) (hm : q.2.2.1.length ≤ 255) (hl : l.length ≤ 1000000000) :
    Calls Tryd.prog 24 #[v, .agg #[slV S q.1.length, .int .u8 q.2.1, slV P q.2.2.1.length, .int .u8 q.2.2.2.1, .int .u8 q.2.2.2.2.1, .int .u8 q.2.2.2.2.2]] w fun e w' => ∃ v', e = .returned v' ∧ Own w' base v' (l ++ encPart q) ∧ Below base w w' := by
  obtain ⟨i0, hi, hz0, hz1, hz2⟩ := info_parts info5
  obtain ⟨ss, ev, ps, x, y, z⟩ := q
  obtain ⟨A, c⟩ := S
  obtain ⟨A2, c2⟩ := P
  simp only [slV] at *
  have HS := Lib.hid hS
  have HP := Lib.hid hP
  have HS1 := Lib.hid hS1
  have HP1 := Lib.hid hP1
  have HP0 := Lib.hid hP0
  have HO := Lib.hid hO
  clear hS hP hS1 hP1 hO hP0
  have hp0 : (0 : Int) ≤ ss.length := by omega
  have hp1 : (ss.length : Int) ≤ 255 := by omega
  have hp2 : (0 : Int) ≤ ps.length := by omega
  have hp3 : (ps.length : Int) ≤ 255 := by omega
  have hlen : ∀ k, ((ss.take k).flatMap encSem).length ≤ 510 := fun k => by
    have h1 := flat_le encSem ss k
    have h2 := flat_len encSem 2 (fun _ => rfl) ss
    omega
  have HLE := Lib.hid hlen
  clear hlen
  go_enter Tryd.func24, Tryd.ntmps24
  go_wp2_with (at_builtin; refine wpList_put rfl _ _ rfl base v _ rfl ((HO.out.alloc _).alloc _) ⟨w.heap.size + 1, 0, none⟩ 1 1 [(ss.length : Int)] rfl rfl ?c1 (by simp; omega) (by simp; omega) ?_)
  case c1 => simpa using news1 (w := w.alloc _) (x := (ss.length : Int)) 5
  intro v1 w1 hO1 hG1 _
  have hK := row_grown (row_alloc (heap_alloc_new w (.cells #[.slice A ss.length c, .int .u8 ev, .slice A2 ps.length c2, .int .u8 x, .int .u8 y, .int .u8 z] 56)) _) ((HO.out.alloc _).alloc _) hG1 (by decide)
  have HO1 := Lib.hid hO1
  have HB1 := Lib.hid (((HO.out.alloc _).alloc _).below (by simp; omega) hG1 (((Below.refl base w).alloc (by omega) _).alloc (by simp; omega) _))
  have hs1 := HB1.out.size
  obtain ⟨hK1, k0, k1, k2, k3, k4, k5⟩ := box6 hK
  have HK1 := Lib.hid hK1
  clear hK hK1 hO1 hG1
  go_wp2
  obtain ⟨ob, hob⟩ : ∃ ob : Array Value, ob = #[.slice A ss.length c, .int .u8 ev, .slice A2 ps.length c2, .int .u8 x, .int .u8 y, .int .u8 z] := ⟨_, rfl⟩
  rw [← hob] at HK1
  have HOB := Lib.hid hob
  clear hob k0 k1 k2 k3 k4 k5
  go_loopw [0, 17] (fun v i wr => PartRel base (l ++ [(ss.length : Int)]) ss w w.heap.size (.cells ob 56) v i wr) (fun _ i _ => ss.length - (intOf i).toNat)
  case atStart => exact ⟨0, Nat.zero_le _, rfl, by simpa using HO1.out, HB1.out, HK1.out⟩
  case round =>
    obtain ⟨k, hk, rfl, hO, hB, hK⟩ := hrel
    have HO := Lib.hid hO
    have HB := Lib.hid hB
    have HK := Lib.hid hK
    have hs := hB.size
    have hle := HLE.out k
    have hLN : (l ++ [(ss.length : Int)] ++ (ss.take k).flatMap encSem).length ≤ 1000000511 := by
      rw [List.length_append, List.length_append]
      simp only [List.length_singleton]
      omega
    obtain ⟨L, hLe⟩ : ∃ L, L = l ++ [(ss.length : Int)] ++ (ss.take k).flatMap encSem := ⟨_, rfl⟩
    rw [← hLe] at HO hLN
    have HLE2 := Lib.hid hLe
    clear hO hB hK hLe hle
    by_cases hlt : k < ss.length
    · obtain ⟨b, o, rfl⟩ := HS.out.head hlt
      obtain ⟨⟨x1, x2⟩, hx⟩ : ∃ x, x = ss.getD k dS := ⟨_, rfl⟩
      obtain ⟨c0, c1⟩ := SemsAt.cells (HS.out.below HB.out HS1.out) hlt hx
      simp only at c0 c1
      have HE : Hid ((ss.take (k + 1)).flatMap encSem = (ss.take k).flatMap encSem ++ encSem (x1, x2)) := by
        show _ = _
        rw [take_succ_flat encSem ss k dS hlt, ← hx]
      clear hx
      go_wp2_with (at_builtin; refine wpList_put rfl _ _ rfl base u0 _ rfl ((HO.out.alloc _).alloc _) ⟨wr.heap.size + 1, 0, none⟩ 2 2 [x1, x2] rfl rfl ?c1 (by omega) (by simp; omega) ?_)
      case c1 => simpa using news2 (w := wr.alloc _) (x := x1) (y := x2) 5
      intro v4 w4 hO4 hG4 _
      have HK4 := Lib.hid (row_grown (row_alloc (row_alloc HK.out _) _) ((HO.out.alloc _).alloc _) hG4 (by decide))
      have HO4 := Lib.hid hO4
      have HB4 := Lib.hid (((HO.out.alloc _).alloc _).below (by simp; omega) hG4 ((HB.out.alloc (by omega) _).alloc (by simp; omega) _))
      clear hO4 hG4
      go_wp2
      go_roundw
      case rel => exact ⟨k + 1, by omega, by go_num, by rw [HE.out]; have := HO4.out; rw [HLE2.out] at this; simpa [encSem] using this, HB4.out, HK4.out⟩
      case measure => simp [intOf]; omega
    · have hk' : k = ss.length := by omega
      subst hk'
      rw [HOB.out] at HK
      obtain ⟨_, k0, k1, k2, k3, k4, k5⟩ := box6 HK.out
      go_wp2_with (at_builtin; refine wpList_put rfl _ _ rfl base u0 _ rfl (HO.out.alloc _) ⟨wr.heap.size, 0, none⟩ 2 2 [ev, (ps.length : Int)] rfl rfl (news2 5) (by omega) (by simp; omega) ?_)
      intro v5 w5 hO5 hG5 _
      have HK5 := Lib.hid (row_grown (row_alloc HK.out _) (HO.out.alloc _) hG5 (by decide))
      have HO5 := Lib.hid hO5
      have HB5 := Lib.hid ((HO.out.alloc _).below (by simp; omega) hG5 (HB.out.alloc (by omega) _))
      have hs5 := HB5.out.size
      have hLN5 : (L ++ [ev, (ps.length : Int)]).length ≤ 1000000513 := by rw [List.length_append]; simp only [List.length_cons, List.length_nil]; omega
      have hx := HP.out.below HB5.out HP1.out
      have HX : Hid (BytesAt w5 A2 ps) := hx
      obtain ⟨_, k0, k1, k2, k3, k4, k5⟩ := box6 HK5.out
      clear hO5 hG5 hx
      obtain ⟨L5, hL5⟩ : ∃ L5, L5 = L ++ [ev, (ps.length : Int)] := ⟨_, rfl⟩
      rw [← hL5] at HO5 hLN5
      have HL5 := Lib.hid hL5
      clear hL5
      have hLN6 : (L5 ++ ps).length ≤ 1000001000 := by rw [List.length_append]; omega
      rcases A2 with _ | A2
      · have hps : ps = [] := by
          cases ps with
          | nil => rfl
          | cons a r =>
            obtain ⟨_, _, e⟩ := HX.out.head (i := 0) (by simp)
            cases e
        subst hps
        obtain rfl : c2 = 0 := HP0.out rfl
        have HO6 := HO5
        have HB6 := HB5
        have HK6 := HK5
        have hs6 := hs5
        obtain ⟨_, k0, k1, k2, k3, k4, k5⟩ := box6 HK6.out
        go_wp2_with (first | (at_builtin; refine wpList_put rfl _ _ rfl base v5 _ rfl HO6.out ⟨w.heap.size, 3, none⟩ 3 3 [x, y, z] rfl rfl ?c1 (by omega) (by omega) ?_) | (at_builtin; refine wpList_append_own_none rfl _ _ 31 rfl base 5 i0 1 Tryd.underlying31 hi v5 _ _ rfl HO5.out rfl ?_))
        case c1 =>
          intro j u hu
          try rw [add_lit]
          match j, hu with
          | 0, hu => exact k3.trans hu
          | 1, hu => exact k4.trans hu
          | 2, hu => exact k5.trans hu
        intro v7 w7 hO7 hG7 _
        have HO7 := Lib.hid hO7
        have HB7 := Lib.hid (HO6.out.below (by omega) hG7 HB6.out)
        clear hO7 hG7
        go_wp2
        go_ret
        refine ⟨_, rfl, ?_, HB7.out⟩
        have := HO7.out
        rw [HL5.out, HLE2.out, List.take_length] at this
        simpa [encPart] using this
      · go_wp2_with (at_builtin; refine wpList_put rfl _ _ rfl base v5 _ rfl HO5.out A2 ps.length c2 ps rfl rfl HX.out.cells (by omega) (by omega) ?_)
        intro v6 w6 hO6 hG6 _
        have HK6 := Lib.hid (row_grown HK5.out HO5.out hG6 (by decide))
        have HO6 := Lib.hid hO6
        have HB6 := Lib.hid (HO5.out.below (by omega) hG6 HB5.out)
        have hs6 := HB6.out.size
        clear hO6 hG6
        obtain ⟨_, k0, k1, k2, k3, k4, k5⟩ := box6 HK6.out
        go_wp2_with (at_builtin; refine wpList_put rfl _ _ rfl base v6 _ rfl HO6.out ⟨w.heap.size, 3, none⟩ 3 3 [x, y, z] rfl rfl ?c1 (by omega) (by omega) ?_)
        case c1 =>
          intro j u hu
          try rw [add_lit]
          match j, hu with
          | 0, hu => exact k3.trans hu
          | 1, hu => exact k4.trans hu
          | 2, hu => exact k5.trans hu
        intro v7 w7 hO7 hG7 _
        have HO7 := Lib.hid hO7
        have HB7 := Lib.hid (HO6.out.below (by omega) hG7 HB6.out)
        clear hO7 hG7
        go_wp2
        go_ret
        refine ⟨_, rfl, ?_, HB7.out⟩
        have := HO7.out
        rw [HL5.out, HLE2.out, List.take_length] at this
        simpa [encPart] using this
end Go.Proofs.YtkgkjkghdllkhaaDoor
