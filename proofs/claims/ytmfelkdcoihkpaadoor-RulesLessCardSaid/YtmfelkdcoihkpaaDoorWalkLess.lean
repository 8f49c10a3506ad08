/-
  The walk of RulesLess.
-/
import Derived.Test.YtmfelkdcoihkpaaDoorLessB
namespace Go.Proofs.YtmfelkdcoihkpaaDoor
open Go.RowKit Go.Stop

theorem less_end {w w3 W9 w11 : World} {P : PlanA} {L : PlanL} {g cap8 c k n1 n2 n3 n4 m : Nat} {fr : Int} {AB : Option Addr} {cB : Nat} {Pf : Nat → Option Addr × Nat} {ws : List WinA}
    (hB3 : Below w.heap.size w w3) (hB9 : Below w3.heap.size w3 W9) (hg : w3.heap.size + 1 ≤ g) (hH : Hdr W9 g n1 (fun i => slV (Pf i) (P.2.1.getD i []).length))
    (hR : W9.heap[w3.heap.size]? = some (.cells #[.int .u16 fr, .slice (some ⟨g, 0, none⟩) n1 cap8, .slice L.a2 n2 L.c2, .slice L.a3 n3 L.c3, .slice L.a4 n4 L.c4] 28 (0, 0)))
    (hQ : ∀ i, i < P.2.1.length → WinsAt w (Pf i).1 (P.2.1.getD i []) ∧ (P.2.1.getD i []).length ≤ (Pf i).2) (hfr : fr = P.1) (hn1 : n1 = P.2.1.length) (hn2 : n2 = P.2.2.1.length) (hn3 : n3 = P.2.2.2.1.length) (hn4 : n4 = P.2.2.2.2.length)
    (hws : ws = P.2.1.getD c []) (hc : c < n1) (hm : m = ws.length) (hk : k < m)
    (hB : Below W9.heap.size W9 w11) (hO : w11.ownsRow W9.heap.size 39 4 (.slice AB (k + (m - (k + 1))) cB) (k + (m - (k + 1))) ((ws.take k).flatMap winV ++ (ws.drop (k + 1)).flatMap winV)) :
    LessC w3 P L (some ⟨g, 0, none⟩) cap8 (w11.setCell ⟨g, c, none⟩ (.slice AB (k + (m - (k + 1))) cB)) := by
  have hg9 : g < W9.heap.size := hH.2.2
  have h3 : w3.heap.size < W9.heap.size := by omega
  have hlen : (ws.take k ++ ws.drop (k + 1)).length = k + (m - (k + 1)) := by rw [List.length_append, List.length_take, List.length_drop]; omega
  have hB11 : Below w3.heap.size w3 (w11.setCell ⟨g, c, none⟩ (.slice AB (k + (m - (k + 1))) cB)) := (hB9.trans (hB.mono (Nat.le_of_lt h3))).setCell (show w3.heap.size ≤ g by omega) _
  have hO2 := ownsRow_setCell_below hO (a := ⟨g, c, none⟩) hg9 (.slice AB (k + (m - (k + 1))) cB)
  rw [← List.flatMap_append] at hO2
  obtain ⟨A', c', e, hle, hwin⟩ := wins_own hlen hO2
  injection e with e1 _ e3
  subst e1 e3
  have hH2 := (hH.keep hB).at hc (v := .slice AB (k + (m - (k + 1))) cB)
  have hcl : c < P.2.1.length := by omega
  have hget : ∀ i, (P.2.1.set c (ws.take k ++ ws.drop (k + 1))).getD i [] = if i = c then ws.take k ++ ws.drop (k + 1) else P.2.1.getD i [] := fun i => by
    rw [List.getD_eq_getElem?_getD, List.getElem?_set]
    by_cases e : i = c
    · subst e
      rw [if_pos rfl, if_pos rfl, if_pos hcl]; rfl
    · rw [if_neg (fun q => e q.symm), if_neg e, List.getD_eq_getElem?_getD]
  refine ⟨P.2.1.set c (ws.take k ++ ws.drop (k + 1)), sub_set ?_, cores_hdr (Pf := fun i => if i = c then (AB, cB) else Pf i) ?_ ?_, PB.of_row ?_, hB11⟩
  · rw [← hws, erase_parts]
    exact List.eraseIdx_sublist ws k
  · rw [List.length_set, ← hn1]
    refine ⟨fun i hi => (hH2.1 i hi).trans ?_, hH2.2.1, hH2.2.2⟩
    dsimp only
    rw [hget]
    by_cases e : i = c
    · rw [if_pos e, if_pos e, if_pos e, hlen]; rfl
    · rw [if_neg e, if_neg e, if_neg e]
  · intro i hi
    rw [List.length_set] at hi
    rw [hget]
    by_cases e : i = c
    · rw [if_pos e, if_pos e]
      exact ⟨hwin, by rw [hlen]; exact hle⟩
    · rw [if_neg e, if_neg e]
      exact ⟨Arr.keep (hQ i hi).1 (below_two hB3 hB11), (hQ i hi).2⟩
  · have e1 : (w11.setCell ⟨g, c, none⟩ (.slice AB (k + (m - (k + 1))) cB)).heap[w3.heap.size]? = w11.heap[w3.heap.size]? := Below.heap_setCell _ ⟨g, c, none⟩ _ _ (by show w3.heap.size ≠ g; omega)
    rw [e1, hB.block _ h3, hR, hfr, hn2, hn3, hn4]
    dsimp only
    rw [List.length_set, ← hn1]
theorem LessC.drew {w3 W : World} {P : PlanA} {L : PlanL} {A : Option Addr} {c : Nat} (h : LessC w3 P L A c W) : LessC w3 P L A c W.drew := by
  obtain ⟨cs', h1, h2, h3, h4⟩ := h
  exact ⟨cs', h1, h2.keep (Below.refl _ _).drew, h3.keep (Below.refl _ _).drew, h4.drew⟩
theorem slice_off {b5 o5 c5 k : Nat} : ∃ ox, (if c5 = k + 1 then (some ⟨b5, o5, none⟩ : Option Addr) else some ⟨b5, o5 + (k + 1) * 4, none⟩) = some ⟨b5, ox, none⟩ ∧ (c5 ≠ k + 1 → ox = o5 + (k + 1) * 4) := by
  by_cases h : c5 = k + 1
  · exact ⟨o5, by rw [if_pos h], fun q => absurd h q⟩
  · exact ⟨_, by rw [if_neg h], fun _ => rfl⟩

theorem wrap_succ (k : Nat) (h : k ≤ 256) : IntKind.i64.wrap ((k : Int) + 1) = (k : Int) + 1 := IntWalk.i64_in _ (by omega)

set_option maxHeartbeats 16000000 in
set_option maxRecDepth 100000 in
theorem walk_less (P : PlanA) (L : PlanL) (a b : Int) (w : World) (hG : GOk w) (hP : PlanAt w P L) (hO : POk P L) (ha : byte a) (hb : byte b) :
    Calls Tryd.prog 8 #[planV P L, .int .u8 a, .int .u8 b] w fun e w' => e = .returned (.bool true) ∧ Below w.heap.size w w' := by
  have h0 := hG.lt
  have HAW := Lib.hid (fun W (hB : Below w.heap.size w W) => awake_any W (hG.below hB h0))
  have HF := Lib.hid (fun W (hB : Below w.heap.size w W) => few_any P L W (hP.keep hB) hO)
  have HC := Lib.hid (fun W (hB : Below w.heap.size w W) => check_any P L W (hP.keep hB) hO)
  have HP := Lib.hid hP
  have HO := Lib.hid hO
  have hpv : planV P L = .agg #[.int .u16 P.1, .slice L.a1 P.2.1.length L.c1, .slice L.a2 P.2.2.1.length L.c2, .slice L.a3 P.2.2.2.1.length L.c3, .slice L.a4 P.2.2.2.2.length L.c4] := rfl
  rw [hpv] at HF HC ⊢
  have HB0 : Hid (Below w.heap.size w (w.alloc (.cells #[.int .u16 P.1, .slice L.a1 P.2.1.length L.c1, .slice L.a2 P.2.2.1.length L.c2, .slice L.a3 P.2.2.2.1.length L.c3, .slice L.a4 P.2.2.2.2.length L.c4] 28))) := (Below.refl _ _).alloc (Nat.le_refl _) _
  have HPB0 : Hid (PB (w.alloc (.cells #[.int .u16 P.1, .slice L.a1 P.2.1.length L.c1, .slice L.a2 P.2.2.1.length L.c2, .slice L.a3 P.2.2.2.1.length L.c3, .slice L.a4 P.2.2.2.2.length L.c4] 28)) w.heap.size P L) := PB.new w P.1 P.2.1 P.2.2.1 P.2.2.2.1 P.2.2.2.2 L.a1 L.c1 L.a2 L.c2 L.a3 L.c3 L.a4 L.c4
  clear hpv hG hP hO
  have hnn := fun W => run_neq_nil_nil_at (P := Tryd.prog) (w := W) 35 (by kernel_rfl)
  have hni := fun W v => run_neq_iface_nil (P := Tryd.prog) (w := W) 35 (by kernel_rfl) 57 v
  have hen := fun W => run_eql_nil_nil_at (P := Tryd.prog) (w := W) 35 (by kernel_rfl)
  obtain ⟨aN, rfl⟩ := Int.eq_ofNat_of_zero_le ha.1
  obtain ⟨bN, rfl⟩ := Int.eq_ofNat_of_zero_le hb.1
  go_enter Tryd.func8, Tryd.ntmps8
  go_wp2_with fail
  refine (HF.out _ HB0.out).mono ?_
  rintro e w1 ⟨⟨bb, rfl⟩, hB⟩
  have HB1 := Lib.hid (below_two HB0.out hB)
  have HPB1 := Lib.hid (HPB0.out.keep hB)
  clear hB
  cases bb
  · go_wp2_with fail
    refine (HAW.out _ HB1.out).mono ?_
    rintro e w2 ⟨rfl, hB⟩
    have HB2 := Lib.hid hB
    clear hB
    go_wp2_with fail
    go_ret
    exact ⟨rfl, below_two HB1.out HB2.out⟩
  · go_wp2_with fail
    refine (HAW.out _ HB1.out).mono ?_
    rintro e w2 ⟨rfl, hB⟩
    have HB2 := Lib.hid (below_two HB1.out hB)
    have HPB2 := Lib.hid (HPB1.out.keep hB)
    obtain ⟨k0, k1, k2, k3, k4⟩ := HPB2.out
    clear hB
    go_wp2_with fail
    refine (HC.out _ HB2.out).mono ?_
    rintro e w3 ⟨hT, hB⟩
    clear k0 k1 k2 k3 k4
    have HB3 := Lib.hid (below_two HB2.out hB)
    have HPB3 := Lib.hid (HPB2.out.keep hB)
    clear hB
    rcases hT with ⟨h0, rfl⟩ | ⟨_, q, _, rfl, _, _⟩
    · have hH := holds_of_ok h0
      have HH := Lib.hid hH
      obtain ⟨hc1, hc2⟩ := holds_cores hH
      have h256 := holds_256 hH (by omega)
      obtain ⟨Pf, q1, q2⟩ := HP.out.cores
      obtain ⟨b1, o1, hA1⟩ := Arr.head q1 (show 0 < P.2.1.length by omega)
      rw [hA1] at q1
      obtain ⟨c, hcd⟩ : ∃ c, c = aN % P.2.1.length := ⟨_, rfl⟩
      have hlw : c < P.2.1.length := by rw [hcd]; exact Nat.mod_lt _ (by omega)
      have hrem : Int.tmod (aN : Int) (P.2.1.length : Int) = (c : Int) := by rw [hcd]; rfl
      have cc := kept (Arr.at (j := 0) q1 hlw rfl) HB3.out
      have hl := h256 _ (getD_mem [] hlw)
      obtain ⟨m, hm⟩ : ∃ m, m = (P.2.1.getD c []).length := ⟨_, rfl⟩
      rw [← hm] at hl
      simp only [slV, ← hm, Nat.mul_one, Nat.add_zero] at cc
      have hcap := (q2 c hlw).2
      rw [← hm] at hcap
      have hWC := (q2 c hlw).1
      obtain ⟨⟨A5, c5⟩, hP5⟩ : ∃ p, p = Pf c := ⟨_, rfl⟩
      rw [← hP5] at cc hcap hWC
      dsimp only at cc hcap hWC
      have HNW : Hid (∀ j u, ((List.range P.2.1.length).map fun i => slV (Pf i) (P.2.1.getD i []).length)[j]? = some u → w3.cell? ((⟨b1, o1, none⟩ : Addr).add j) = some u) := by
        intro j u hu
        have hj : j < P.2.1.length := by simpa using (List.getElem?_eq_some_iff.1 hu).1
        rw [List.getElem?_map, List.getElem?_range hj] at hu
        rw [add_off]
        have := kept (Arr.at (j := 0) q1 hj hu) HB3.out
        simpa using this
      obtain ⟨k0, k1, k2, k3, k4⟩ := HPB3.out
      rw [hA1] at k1
      obtain ⟨fr, hfe⟩ : ∃ fr, fr = P.1 := ⟨_, rfl⟩
      obtain ⟨n1, hn1⟩ : ∃ n, n = P.2.1.length := ⟨_, rfl⟩
      obtain ⟨n2, hn2⟩ : ∃ n, n = P.2.2.1.length := ⟨_, rfl⟩
      obtain ⟨n3, hn3⟩ : ∃ n, n = P.2.2.2.1.length := ⟨_, rfl⟩
      obtain ⟨n4, hn4⟩ : ∃ n, n = P.2.2.2.2.length := ⟨_, rfl⟩
      rw [← hfe] at k0
      rw [← hn1] at k1 hc1 hc2 hrem HNW
      rw [← hn2] at k2
      rw [← hn3] at k3
      rw [← hn4] at k4
      have hlt : c < n1 := by rw [hn1]; exact hlw
      have ha1 : (aN : Int) ≤ 255 := ha.2
      have hb1 : (bN : Int) ≤ 255 := hb.2
      have hcw : IntKind.i64.wrap (c : Int) = (c : Int) := IntWalk.i64_in _ (by omega)
      have hw64 : wrap64 (aN : Int) = (aN : Int) := IntWalk.wrap64_in _ (by omega)
      have hrem2 : Int.tmod (wrap64 (aN : Int)) (n1 : Int) = (c : Int) := by rw [hw64]; exact hrem
      have hn0 : ((n1 : Int) == 0) = false := beq_eq_false_iff_ne.2 (by omega)
      have hn00 : (n1 : Int) ≠ 0 := by omega
      obtain ⟨i3, hi3, hz30, hz31, hz32⟩ := info_parts info43
      obtain ⟨i0, hi, hz0, hz1, hz2⟩ := info_parts info39
      have HQ1 := Lib.hid q1
      have HQ2 := Lib.hid q2
      have HWC := Lib.hid hWC
      have HM := Lib.hid hm
      have HP5 := Lib.hid hP5
      have HFE := Lib.hid hfe
      have HN1 := Lib.hid hn1
      have HN2 := Lib.hid hn2
      have HN3 := Lib.hid hn3
      have HN4 := Lib.hid hn4
      have HA1 := Lib.hid hA1
      have HI := Lib.hid hi
      have HZ0 := Lib.hid hz0
      have HZ1 := Lib.hid hz1
      have HZ2 := Lib.hid hz2
      have HLW := Lib.hid hlw
      obtain ⟨news, hnews⟩ : ∃ news, news = (List.range n1).map fun i => slV (Pf i) (P.2.1.getD i []).length := ⟨_, rfl⟩
      rw [← hnews] at HNW
      have hnl : news.length = n1 * 1 := by rw [hnews]; simp
      have hno : ∀ u ∈ news, u.oneCell' = true := by
        rw [hnews]
        intro u hu
        obtain ⟨i, _, rfl⟩ := List.mem_map.1 hu
        rfl
      have HNL := Lib.hid hnl
      have HNO := Lib.hid hno
      have HNE := Lib.hid hnews
      have hown0 : ((w3.alloc (.cells #[.int .u16 fr, .slice (some ⟨b1, o1, none⟩) n1 L.c1, .slice L.a2 n2 L.c2, .slice L.a3 n3 L.c3, .slice L.a4 n4 L.c4] 28)).alloc (.cells #[] 43)).ownsRow (w3.heap.size + 1) 43 1 (.slice (some ⟨w3.heap.size + 1, 0, none⟩) 0 0) 0 [] := by
        have := World.ownsRow_lit (base := w3.heap.size + 1) (size := 1) (e := 43) (w3.alloc (.cells #[.int .u16 fr, .slice (some ⟨b1, o1, none⟩) n1 L.c1, .slice L.a2 n2 L.c2, .slice L.a3 n3 L.c3, .slice L.a4 n4 L.c4] 28)) #[] 0 (by simp) (by decide) rfl
        simpa using this
      have HOWN0 := Lib.hid hown0
      have hb38 : Below w3.heap.size w3 ((w3.alloc (.cells #[.int .u16 fr, .slice (some ⟨b1, o1, none⟩) n1 L.c1, .slice L.a2 n2 L.c2, .slice L.a3 n3 L.c3, .slice L.a4 n4 L.c4] 28)).alloc (.cells #[] 43)) := ((Below.refl _ _).alloc (Nat.le_refl _) _).alloc (by simp) _
      have HB38 := Lib.hid hb38
      have HNW8 := Lib.hid (fun j u hu => by
        have h := HNW.out j u hu
        rw [add_off] at h ⊢
        exact kept h HB38.out : ∀ j u, news[j]? = some u → ((w3.alloc (.cells #[.int .u16 fr, .slice (some ⟨b1, o1, none⟩) n1 L.c1, .slice L.a2 n2 L.c2, .slice L.a3 n3 L.c3, .slice L.a4 n4 L.c4] 28)).alloc (.cells #[] 43)).cell? ((⟨b1, o1, none⟩ : Addr).add j) = some u)
      have K1 := kept k1 HB38.out
      clear q1 q2 hWC hm hP5 hfe hn1 hn2 hn3 hn4 hA1 hi hz0 hz1 hz2 hlw hnews hnl hno hown0 hb38 hcd h256 hH h0
      go_wp2_with (at_builtin; (refine wpList_append_own _ rfl _ _ 23 rfl (w3.heap.size + 1) 43 i3 (.slice none 0 0) 1 24 Tryd.underlying23 hi3 hz30 hz31 hz32 rfl (by decide) _ 0 [] rfl HOWN0.out ⟨b1, o1, none⟩ n1 L.c1 news rfl HNL.out HNW8.out HNO.out ?c3 ?c4 ?c5 ?_))
      case c3 => unfold maxLen; omega
      case c4 => omega
      case c5 => simp
      intro v8 w8 hown8 hgrow8 _
      have hB8 : Below w3.heap.size w3 w8 := HB38.out.grown hgrow8 (by simp; omega) (fun k hk => by have := (HOWN0.out.lt k hk).1; omega)
      have hrow : w8.heap[w3.heap.size]? = some (.cells #[.int .u16 fr, .slice (some ⟨b1, o1, none⟩) n1 L.c1, .slice L.a2 n2 L.c2, .slice L.a3 n3 L.c3, .slice L.a4 n4 L.c4] 28 (0, 0)) := by
        rw [hgrow8.block w3.heap.size (by simp; omega) (by simp [Value.ownBlock])]
        exact (((Below.refl _ _).alloc (Nat.le_refl _) _ : Below (w3.alloc (.cells #[.int .u16 fr, .slice (some ⟨b1, o1, none⟩) n1 L.c1, .slice L.a2 n2 L.c2, .slice L.a3 n3 L.c3, .slice L.a4 n4 L.c4] 28)).heap.size _ ((w3.alloc (.cells #[.int .u16 fr, .slice (some ⟨b1, o1, none⟩) n1 L.c1, .slice L.a2 n2 L.c2, .slice L.a3 n3 L.c3, .slice L.a4 n4 L.c4] 28)).alloc (.cells #[] 43))).block w3.heap.size (by simp)).trans (heap_alloc_new w3 _)
      obtain ⟨g, cap8, rfl, hg8, hH8⟩ := hdr_own (n := n1) (by omega) hown8 (fun i => slV (Pf i) (P.2.1.getD i []).length) (fun i hi => by rw [HNE.out, List.getElem?_map, List.getElem?_range hi]; rfl)
      have hf1 : w8.frozen? ⟨w3.heap.size, 1, none⟩ = false := frozen_of_row _ _ _ _ _ hrow
      have hcq : w8.cell? ⟨w3.heap.size, 1, none⟩ = some (.slice (some ⟨b1, o1, none⟩) n1 L.c1) := by rw [cell_of_row _ _ _ _ _ _ hrow]; rfl
      have hB9 : Below w3.heap.size w3 (w8.setCell ⟨w3.heap.size, 1, none⟩ (.slice (some ⟨g, 0, none⟩) n1 cap8)) := hB8.setCell (Nat.le_refl _) _
      have hrow9 := PB.set1 (n := n1) (A := some ⟨g, 0, none⟩) (c := cap8) hrow
      have hH9 : Hdr (w8.setCell ⟨w3.heap.size, 1, none⟩ (.slice (some ⟨g, 0, none⟩) n1 cap8)) g n1 (fun i => slV (Pf i) (P.2.1.getD i []).length) := hH8.other (by omega)
      have HB9 := Lib.hid hB9
      have HR9 := Lib.hid hrow9
      have HH9 := Lib.hid hH9
      have hcap8 : n1 ≤ cap8 := by
        rcases hown8.2 with ⟨e, e2⟩ | ⟨g', cap', cur', e, _, _, hle, _⟩
        · omega
        · injection e with _ _ e3
          omega
      have HCAP := Lib.hid hcap8
      clear hcap8
      clear hown8 hgrow8 hB8 hrow hH8 hB9 hrow9 hH9 k0 k1 k2 k3 k4 K1 cc
      go_upto_if 43 with fail
      obtain ⟨W9, hW9⟩ : ∃ W9, W9 = w8.setCell ⟨w3.heap.size, 1, none⟩ (.slice (some ⟨g, 0, none⟩) n1 cap8) := ⟨_, rfl⟩
      rw [← hW9] at HB9 HR9 HH9 ⊢
      clear hf1 hcq hW9
      go_cut [6, 8] (fun _ _ wx => LessC w3 P L (some ⟨g, 0, none⟩) cap8 wx)
      case first =>
        by_cases hm0 : m = 0
        · subst hm0
          go_wp2_with fail
          go_meet
          refine ⟨P.2.1, sub_refl _, ?_, ?_, HB9.out⟩
          · exact cores_hdr (by rw [← HN1.out]; exact HH9.out) (fun i hi => ⟨Arr.keep (HQ2.out i hi).1 (below_two HB3.out HB9.out), (HQ2.out i hi).2⟩)
          · exact PB.of_row (by have := HR9.out; rw [HFE.out, HN1.out, HN2.out, HN3.out, HN4.out] at this; exact this)
        · have hm1 : 1 ≤ m := by omega
          obtain ⟨b5, o5, hA5⟩ := Arr.head HWC.out (show 0 < (P.2.1.getD c []).length by rw [← HM.out]; omega)
          subst hA5
          obtain ⟨k, hkd⟩ : ∃ k, k = bN % m := ⟨_, rfl⟩
          have hkm : k < m := by rw [hkd]; exact Nat.mod_lt _ (by omega)
          have hb64 : wrap64 (bN : Int) = (bN : Int) := IntWalk.wrap64_in _ (by omega)
          have hremk : Int.tmod (bN : Int) (m : Int) = (k : Int) := by rw [hkd]; rfl
          have hremk2 : Int.tmod (wrap64 (bN : Int)) (m : Int) = (k : Int) := by rw [hb64]; exact hremk
          have hm00 : (m : Int) ≠ 0 := by omega
          have hm01 : ((m : Int) == 0) = false := beq_eq_false_iff_ne.2 (by omega)
          have hmgt : (0 : Int) < (m : Int) := by omega
          have hre : (bN : Int) % (m : Int) = (k : Int) := by rw [hkd]; rfl
          have HRE := Lib.hid hre
          clear hre
          have HRK := Lib.hid hremk2
          have HHCW := Lib.hid hcw
          clear hkd hrem hrem2 hw64 hcw hb64 hremk hremk2
          have hownl : ∀ W1 : World, W1.heap[W9.heap.size]? = some (.cells #[] 39 (0, 0)) → W1.ownsRow W9.heap.size 39 4 (.slice (some ⟨W9.heap.size, 0, none⟩) 0 0) 0 [] := fun W1 h => ⟨by simp, .inr ⟨W9.heap.size, 0, #[], rfl, Nat.le_refl _, h, Nat.le_refl _, by decide, rfl, by simp⟩⟩
          have HOWNL := Lib.hid hownl
          clear hownl
          have HNA := Lib.hid (fun (W1 : World) (h : Below W9.heap.size W9 W1) => wins_news (WinsAt.take (Arr.keep (Arr.keep HWC.out (below_two HB3.out HB9.out)) h) k))
          obtain ⟨ox, hox, hox2⟩ := slice_off (b5 := b5) (o5 := o5) (c5 := c5) (k := k)
          have hnd : ∀ W1, Below W9.heap.size W9 W1 → ∀ j u, (((P.2.1.getD c []).drop (k + 1)).flatMap winV)[j]? = some u → W1.cell? ((⟨b5, ox, none⟩ : Addr).add j) = some u := fun W1 h j u hu => by
            by_cases e : c5 = k + 1
            · rw [List.drop_eq_nil_of_le (by rw [← HM.out]; omega)] at hu
              simp at hu
            · rw [hox2 e]
              exact wins_news (WinsAt.drop (Arr.keep (Arr.keep HWC.out (below_two HB3.out HB9.out)) h) (k + 1)) j u hu
          have HND := Lib.hid hnd
          have HOX := Lib.hid hox
          clear hnd hox hox2
          obtain ⟨ws, hws⟩ : ∃ ws, ws = P.2.1.getD c [] := ⟨_, rfl⟩
          rw [← hws] at HNA HND
          have HWS := Lib.hid hws
          have hmw : m = ws.length := by rw [hws]; exact HM.out
          have hl1 : ((ws.take k).flatMap winV).length = k * 4 := by rw [flat_win_len, List.length_take]; omega
          have hl2 : ((ws.drop (k + 1)).flatMap winV).length = (m - (k + 1)) * 4 := by rw [flat_win_len, List.length_drop]; omega
          have HL1 := Lib.hid hl1
          have HL2 := Lib.hid hl2
          have HMW := Lib.hid hmw
          have r9 := HR9.out
          have k9 : W9.cell? ⟨w3.heap.size, 1, none⟩ = some (.slice (some ⟨g, 0, none⟩) n1 cap8) := by rw [cell_of_row _ _ _ _ _ _ r9]; rfl
          have K9 := Lib.hid k9
          clear hws hmw hl1 hl2 r9
          have hremk2 := HRK.out
          have hre := HRE.out
          go_wp2_with fail
          try rw [hre]
          clear hre hremk2 hm00 hm01 hn0 hn00 hmgt
          have u0 : (0 : Int) ≤ (k : Int) := Int.natCast_nonneg _
          have u1 : (k : Int) ≤ (m : Int) := by omega
          have u2 : (k : Int) ≤ (c5 : Int) := by omega
          have u3 : (0 : Int) ≤ (k : Int) + 1 := by omega
          have u4 : (k : Int) + 1 ≤ (m : Int) := by omega
          have u5 : (k : Int) + 1 ≤ (c5 : Int) := by omega
          have u6 : (m : Int) ≤ (c5 : Int) := by omega
          have v0 : (0 : Int) ≤ (c : Int) := Int.natCast_nonneg _
          have v1 : (c : Int) < (n1 : Int) := by omega
          have hk1 := wrap_succ k (Nat.le_trans (Nat.le_of_lt hkm) hl)
          have k9a := fun o => kept k9 ((Below.refl W9.heap.size W9).alloc (Nat.le_refl _) o)
          have hHg := HH9.out.2.2
          have HFIN := Lib.hid (fun w11 AB cB hB hO => less_end (w11 := w11) (AB := AB) (cB := cB) HB3.out HB9.out hg8 HH9.out HR9.out HQ2.out HFE.out HN1.out HN2.out HN3.out HN4.out HWS.out hlt HMW.out hkm hB hO)
          go_region_law ((
            first
            | (refine step_append_own rfl _ _ 43 rfl W9.heap.size 39 i0 (.agg #[.int .u16 0, .int .u16 0, .int .u8 0, .int .u8 0]) 4 6 Tryd.underlying43 HI.out HZ0.out HZ1.out HZ2.out rfl (by decide) (.slice (some ⟨W9.heap.size, 0, none⟩) 0 0) 0 [] rfl
                 (HOWNL.out _ (by exact heap_alloc_new W9 (.cells #[] 39))) ⟨b5, o5, none⟩ k c5 _ rfl HL1.out (HNA.out _ (by repeat (first | exact Below.refl _ _ | refine Below.drew ?_ | refine Below.alloc ?_ (by simp) _))) (flat_win_one _) (by unfold maxLen; omega) (by omega) (by simp) ?_
               intro vA w10 hown1 hgrow1
               have hB10 : Below W9.heap.size W9 w10 := Below.grown (by repeat (first | exact Below.refl _ _ | refine Below.drew ?_ | refine Below.alloc ?_ (by simp) _)) hgrow1 (by simp) (fun j hj => by simp [Value.ownBlock] at hj; omega)
               try rw [Nat.zero_add, List.nil_append] at hown1
               obtain ⟨AA, cA, rfl⟩ := own_form hown1
               have HOA := Lib.hid hown1
               have HBA := Lib.hid hB10
               have k9b := kept K9.out hB10
               clear hown1 hgrow1 hB10)
            | (refine step_append_own rfl _ _ 43 rfl W9.heap.size 39 i0 (.agg #[.int .u16 0, .int .u16 0, .int .u8 0, .int .u8 0]) 4 6 Tryd.underlying43 HI.out HZ0.out HZ1.out HZ2.out rfl (by decide) (.slice AA k cA) k _ rfl
                 (by first | exact HOA.out | exact HOA.out.drew | exact HOA.out.drew.drew) ⟨b5, ox, none⟩ (m - (k + 1)) (c5 - (k + 1)) _ (congrArg (fun z => Value.slice z (m - (k + 1)) (c5 - (k + 1))) HOX.out) HL2.out (HND.out _ (by repeat (first | exact HBA.out | refine Below.drew ?_))) (flat_win_one _) (by unfold maxLen; omega) (by omega) (by first | exact HBA.out.size | (simp; exact HBA.out.size)) ?_
               intro vB w11 hown2 hgrow2
               have hB11 : Below W9.heap.size W9 w11 := Below.grown (by repeat (first | exact HBA.out | refine Below.drew ?_)) hgrow2 (by first | exact HBA.out.size | (simp; exact HBA.out.size)) (fun j hj => (HOA.out.lt j hj).1)
               obtain ⟨AB, cB, rfl⟩ := own_form hown2
               have HOB := Lib.hid hown2
               have HBB := Lib.hid hB11
               have hf11 : w11.frozen? ⟨g, c, none⟩ = false := by rw [hB11.frozen (p := ⟨g, c, none⟩) hHg]; exact HH9.out.2.1 c
               have hc11 := kept (HH9.out.1 c hlt) hB11
               have k9c := kept K9.out hB11
               clear hown2 hgrow2 hB11)))
          all_goals
            go_wp2_with fail
            all_goals
              go_meet
              first
                | exact HFIN.out _ _ _ HBB.out HOB.out
                | exact (HFIN.out _ _ _ HBB.out HOB.out).drew
                | exact HFIN.out _ _ _ HBB.out.drew HOB.out.drew
      case rest =>
        obtain ⟨cs', hs, hcs, hpb, hBc⟩ := hcut
        have hlen : cs'.length = n1 := by rw [hs.1]; exact HN1.out.symm
        obtain ⟨q0, q1, q2, q3, q4⟩ := hpb
        dsimp only at q0 q1 q2 q3 q4
        rw [hlen] at q1
        rw [← HFE.out] at q0
        rw [← HN2.out] at q2
        rw [← HN3.out] at q3
        rw [← HN4.out] at q4
        have HBC := Lib.hid (below_two HB3.out hBc)
        have hBw := below_two HB3.out hBc
        have hsub : ∀ ws ∈ cs', ∃ ws0 ∈ P.2.1, List.Sublist ws ws0 := fun ws hw => by
          obtain ⟨i, hi, rfl⟩ := mem_at [] hw
          exact ⟨_, getD_mem [] (by rw [← hs.1]; exact hi), hs.2 i⟩
        have hwfp : ∀ ws ∈ cs', ∀ v ∈ ws, WfWin v := fun ws hw v hv => by
          obtain ⟨ws0, h0, h1⟩ := hsub ws hw
          exact HO.out.wf.2.1 ws0 h0 v (h1.mem hv)
        have hlen2 : ∀ ws ∈ cs', ws.length ≤ 140737488355328 := fun ws hw => by
          obtain ⟨ws0, h0, h1⟩ := hsub ws hw
          exact Nat.le_trans h1.length_le (HO.out.li ws0 h0)
        have HKQ := Lib.hid (fun W (h : Below wc.heap.size wc W) => check_any (P.1, cs', P.2.2.1, P.2.2.2.1, P.2.2.2.2) { L with a1 := some ⟨g, 0, none⟩, c1 := cap8 } W
          ⟨hcs.keep h, (HP.out.keep (below_two hBw h)).parts, (HP.out.keep (below_two hBw h)).chans, (HP.out.keep (below_two hBw h)).pairs⟩
          ⟨⟨HO.out.wf.1, hwfp, HO.out.wf.2.2.1, HO.out.wf.2.2.2.1, HO.out.wf.2.2.2.2⟩, by dsimp only; omega, HO.out.l2, HO.out.l3, HO.out.l4, hlen2, HO.out.lp, by dsimp only; rw [hlen]; exact HCAP.out, HO.out.k4⟩)
        have HKR := Lib.hid (fun W (h : Below wc.heap.size wc W) => check_any (P.1, cs', P.2.2.1, P.2.2.2.1, []) { L with a1 := some ⟨g, 0, none⟩, c1 := cap8, a4 := none, c4 := 0 } W
          ⟨hcs.keep h, (HP.out.keep (below_two hBw h)).parts, (HP.out.keep (below_two hBw h)).chans, fun i hi => by simp at hi⟩
          ⟨⟨HO.out.wf.1, hwfp, HO.out.wf.2.2.1, HO.out.wf.2.2.2.1, fun r hr => by simp at hr⟩, by dsimp only; omega, HO.out.l2, HO.out.l3, by simp, hlen2, HO.out.lp, by dsimp only; rw [hlen]; exact HCAP.out, by simp⟩)
        rw [checkS_ok (holds_sub HH.out HO.out.wf hs (.inl rfl))] at HKQ
        rw [checkS_ok (holds_sub HH.out HO.out.wf hs (.inr rfl))] at HKR
        simp only [planV, hlen, List.length_nil] at HKQ HKR
        rw [← HFE.out, ← HN2.out, ← HN3.out, ← HN4.out] at HKQ
        rw [← HFE.out, ← HN2.out, ← HN3.out] at HKR
        clear hs hcs hBc hlen hBw hsub hwfp hlen2 hrem hcw hw64 hrem2 hn0 hn00
        obtain ⟨W12, hW12⟩ : ∃ W12, W12 = wc.alloc (.cells #[.int .u16 fr, .slice (some ⟨g, 0, none⟩) n1 cap8, .slice L.a2 n2 L.c2, .slice L.a3 n3 L.c3, .slice none 0 0] 28) := ⟨_, rfl⟩
        have hb12 : Below wc.heap.size wc W12 := by rw [hW12]; exact (Below.refl _ _).alloc (Nat.le_refl _) _
        have hr12 : W12.cell? ⟨wc.heap.size, 0, none⟩ = some (.int .u16 fr) ∧ W12.cell? ⟨wc.heap.size, 1, none⟩ = some (.slice (some ⟨g, 0, none⟩) n1 cap8) ∧ W12.cell? ⟨wc.heap.size, 2, none⟩ = some (.slice L.a2 n2 L.c2) ∧ W12.cell? ⟨wc.heap.size, 3, none⟩ = some (.slice L.a3 n3 L.c3) ∧ W12.cell? ⟨wc.heap.size, 4, none⟩ = some (.slice none 0 0) := by
          rw [hW12]
          exact ⟨by simp, by simp, by simp, by simp, by simp⟩
        have z0 := fun o => kept q0 ((Below.refl wc.heap.size wc).alloc (Nat.le_refl _) o)
        have z1 := fun o => kept q1 ((Below.refl wc.heap.size wc).alloc (Nat.le_refl _) o)
        have z2 := fun o => kept q2 ((Below.refl wc.heap.size wc).alloc (Nat.le_refl _) o)
        have z3 := fun o => kept q3 ((Below.refl wc.heap.size wc).alloc (Nat.le_refl _) o)
        have z4 := fun o => kept q4 ((Below.refl wc.heap.size wc).alloc (Nat.le_refl _) o)
        have HR12 := Lib.hid hr12
        have HB12 := Lib.hid hb12
        have HBT := Lib.hid (below_two HBC.out hb12)
        clear hr12 hb12
        go_wp2_with fail
        rw [← hW12]
        refine (HKQ.out _ HB12.out).mono ?_
        rintro e w13 ⟨hT, hB⟩
        obtain ⟨r0, r1, r2, r3, r4⟩ := HR12.out
        replace r0 := kept r0 hB
        replace r1 := kept r1 hB
        replace r2 := kept r2 hB
        replace r3 := kept r3 hB
        replace r4 := kept r4 hB
        have HB13 := Lib.hid (below_two HB12.out hB)
        have HBT3 := Lib.hid (below_two HBT.out hB)
        clear hB hW12 z0 z1 z2 z3 z4
        rcases hT with ⟨_, rfl⟩ | ⟨h, _⟩
        case inr => exact absurd rfl h
        go_wp2_with fail
        refine (HKR.out _ HB13.out).mono ?_
        rintro e w14 ⟨hT, hB⟩
        have HB14 := Lib.hid (below_two HBT3.out hB)
        clear hB
        rcases hT with ⟨_, rfl⟩ | ⟨h, _⟩
        case inr => exact absurd rfl h
        go_wp2_with fail
        go_ret
        exact ⟨by first | rfl | simp, HB14.out⟩
    · go_wp2_with fail
      refine (HAW.out _ HB3.out).mono ?_
      rintro e w4 ⟨rfl, hB⟩
      have HB4 := Lib.hid hB
      clear hB
      go_wp2_with fail
      go_ret
      exact ⟨rfl, below_two HB3.out HB4.out⟩
end Go.Proofs.YtmfelkdcoihkpaaDoor
