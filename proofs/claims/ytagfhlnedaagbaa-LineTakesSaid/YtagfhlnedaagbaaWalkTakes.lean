/-
  The law of the takes.
-/
import Derived.Test.YtagfhlnedaagbaaMade
namespace Go.Proofs.Ytagfhlnedaagbaa
open Go.RowKit

/-- One is taken. -/
theorem take_one {S : Ln} (ok : Ok S) {z : Int} {r : List Int} (h : S.nums = z :: r) : S.any = true ∧ S.first = z ∧ S.take.nums = r ∧ S.take.has z = false := by
  cases hq : S.q with
  | nil => unfold Ln.nums at h; rw [hq] at h; cases h
  | cons a r' =>
    have h0 := h
    unfold Ln.nums at h
    rw [hq, List.map_cons] at h
    injection h with h1 h2
    have hi := ok.ids
    rw [hq, List.map_cons, List.nodup_cons] at hi
    have hr : S.take.q = r' := by
      unfold Ln.take
      rw [hq]
      show S.q.filter _ = r'
      rw [hq, List.filter_cons_of_neg (by simp), List.filter_eq_self]
      intro b hb
      simp only [Bool.not_eq_true', decide_eq_false_iff_not]
      intro e
      exact hi.1 (List.mem_map.2 ⟨b, hb, e⟩)
    refine ⟨by unfold Ln.any; rw [hq]; rfl, by unfold Ln.first; rw [hq]; exact h1, by unfold Ln.nums; rw [hr]; exact h2, ?_⟩
    cases hh : S.take.has z with
    | false => rfl
    | true =>
      obtain ⟨b, hb, e⟩ := has_iff.1 hh
      rw [hr] at hb
      exact absurd (List.mem_map.2 ⟨b, hb, Fin.ext (by omega)⟩) hi.1
theorem drop_no {S : Ln} {z : Int} (h : S.has z = false) : S.dropE z = 142 ∧ S.drop z = S := by
  unfold Ln.dropE Ln.drop
  rw [h]
  exact ⟨rfl, rfl⟩
set_option maxRecDepth 100000 in
set_option maxHeartbeats 8000000 in
theorem walk_takes (A : Option Addr) (c : Nat) (cs : List CallA) (w : World) (hwf : ∀ y ∈ cs, WfCall y) (hA : CallsAt w A cs) :
    Calls Try.prog 4 #[.slice A cs.length c] w fun e w' => e = .returned (.bool true) ∧ Below w.heap.size w w' := by
  have hmd := Lib.hid (made_any A c cs w hwf hA)
  have haw := Lib.hid (fun W => awake_any W)
  clear hwf hA
  go_enter Try.func4, Try.ntmps4
  go_wp2_with fail
  with_reducible refine hmd.out.mono ?_
  rintro e w1 ⟨g, b, v, S, rfl, hLB, hq, hN⟩
  have L0 := Lib.hid hLB
  clear hmd hLB
  go_wp2_with fail
  with_reducible refine (haw.out _).mono ?_
  rintro e w2 ⟨rfl, hB2⟩
  have hL2 := L0.out.keep hB2
  have HLI := Lib.hid (list_any w2 hL2.ln (by omega))
  have L2 := Lib.hid hL2
  clear L0 hB2 hL2 haw
  go_wp2_with fail
  with_reducible refine HLI.out.mono ?_
  rintro e w3 ⟨vl, rfl, hNl, hB3, hfl⟩
  obtain ⟨lA, lc, rfl, _⟩ := hNl.len
  have hL3 := L2.out.keep hB3
  obtain ⟨l, hl⟩ : ∃ l, l = S.nums := ⟨_, rfl⟩
  have hll : l.length ≤ 60 := by rw [hl, nums_len]; exact hq
  rw [← hl] at hNl ⊢
  have hfar : ∀ x, (Value.slice lA l.length lc).ownBlock = some x → ¬ Blk g b v x := fun x hx hb => by have := L2.out.ln.blk_lt hb; have := hfl x (by rw [← hl]; exact hx); omega
  have HT0 : Hid (∃ v S', LB w.heap.size w w3 g b v S' ∧ S'.nums = l.drop 0 ∧ S'.q.length ≤ 60 ∧ Nums w3 (.slice lA l.length lc) l ∧ ∀ x, (Value.slice lA l.length lc).ownBlock = some x → ¬ Blk g b v x) := ⟨v, S, hL3, by rw [List.drop_zero, hl], hq, hNl, hfar⟩
  clear hNl hB3 hfl hL3 L2 HLI hq hN hl hfar
  obtain ⟨n, hn⟩ : ∃ n, n = l.length := ⟨_, rfl⟩
  rw [← hn] at HT0 hll ⊢
  have HN := Lib.hid hn
  clear hn
  go_wp2_with fail
  go_loopw [5, 6, 7, 8, 9] (fun iv _ _ _ _ wr => ∃ i : Nat, iv = .int .i64 i ∧ i ≤ n ∧ Hid (∃ v S', LB w.heap.size w wr g b v S' ∧ S'.nums = l.drop i ∧ S'.q.length ≤ 60 ∧ Nums wr (.slice lA n lc) l ∧ ∀ x, (Value.slice lA n lc).ownBlock = some x → ¬ Blk g b v x)) (fun iv _ _ _ _ _ => n - (intOf iv).toNat)
  case atStart => exact ⟨0, rfl, Nat.zero_le _, HT0⟩
  case round =>
    obtain ⟨i, rfl, hin, HK⟩ := hrel
    clear HT0
    obtain ⟨v, S', hLB, hd, hq, hNl, hfar⟩ := HK.out
    have i0 : (0 : Int) ≤ (i : Int) := Int.natCast_nonneg _
    by_cases hil : i < n
    · have hil' : i < l.length := by rw [← HN.out]; exact hil
      obtain ⟨z, hz⟩ : ∃ z, z = l.getD i 0 := ⟨_, rfl⟩
      have hde : S'.nums = z :: l.drop (i + 1) := by rw [hd, List.drop_eq_getElem_cons hil', hz, List.getD_eq_getElem?_getD, List.getElem?_eq_getElem hil']; rfl
      obtain ⟨ha, hf, hnx, hno⟩ := take_one hLB.ln.ok hde
      obtain ⟨hdE, hdS⟩ := drop_no hno
      have hzI : I64 z := by
        have : z ∈ S'.nums := by rw [hde]; exact List.mem_cons_self
        exact nums_i64 S' z this
      have HFI := Lib.hid (first_any wr hLB.ln)
      have HTA := Lib.hid (take_any wr hLB.ln (by omega))
      rw [ha, hf] at HFI
      have i1 : (i : Int) < (n : Int) := by omega
      obtain ⟨gq, rfl⟩ : ∃ gq, lA = some ⟨gq, 0, none⟩ := by
        obtain ⟨_, _, e, h⟩ := hNl.len
        obtain ⟨gq, e2⟩ := h (by omega)
        injection e with e1
        exact ⟨gq, by rw [e1, e2]⟩
      have HX := Lib.hid (And.intro hLB (And.intro ha (And.intro hf (And.intro hnx (And.intro hdE (And.intro hdS (And.intro hNl (And.intro hfar (And.intro hq (And.intro hzI hz))))))))))
      clear hLB ha hf hnx hno hdE hdS hNl hfar hq hzI hz hd hde HK
      go_wp2_with fail
      with_reducible refine HFI.out.mono ?_
      rintro e _ ⟨rfl, rfl⟩
      go_wp2_with fail
      with_reducible refine HTA.out.mono ?_
      rintro e w4 ⟨he, hP⟩
      obtain ⟨hLB, ha, hf, hnx, hdE, hdS, hNl, hfar, hq, hzI, hz⟩ := HX.out
      rw [hf, ha] at he
      obtain rfl := he
      obtain ⟨v4, hLB4, hF⟩ := hLB.step hP
      obtain ⟨hN4, hfar4⟩ := hNl.far hF hfar
      have c0 := hN4.at (i := i) hil'
      rw [← hz] at c0
      have hq4 : S'.take.q.length ≤ 60 := Nat.le_trans (take_len S').1 hq
      have HDR := Lib.hid (drop_any z hzI w4 hLB4.ln (by omega))
      have HX4 := Lib.hid (And.intro hLB4 (And.intro hnx (And.intro hdE (And.intro hdS (And.intro hN4 (And.intro hfar4 hq4))))))
      clear hLB ha hf hnx hdE hdS hNl hfar hq hzI hz hP hLB4 hF hN4 hfar4 hq4 HX HFI HTA
      go_wp2_with fail
      with_reducible refine HDR.out.mono ?_
      rintro e w5 ⟨he, hP⟩
      obtain ⟨hLB4, hnx, hdE, hdS, hN4, hfar4, hq4⟩ := HX4.out
      rw [hdE] at he
      rw [hdS] at hP
      obtain rfl := he
      obtain ⟨v5, hLB5, hF⟩ := hLB4.step hP
      obtain ⟨hN5, hfar5⟩ := hN4.far hF hfar4
      have HF : Hid (∃ v S', LB w.heap.size w w5 g b v S' ∧ S'.nums = l.drop (i + 1) ∧ S'.q.length ≤ 60 ∧ Nums w5 (.slice (some ⟨gq, 0, none⟩) n lc) l ∧ ∀ x, (Value.slice (some ⟨gq, 0, none⟩) n lc).ownBlock = some x → ¬ Blk g b v x) := ⟨v5, _, hLB5, hnx, hq4, hN5, hfar5⟩
      clear hLB4 hnx hdE hdS hN4 hfar4 hq4 hP hLB5 hF hN5 hfar5 HX4 HDR c0
      go_wp2_with fail
      go_roundw
      case rel => exact ⟨i + 1, by go_num, by omega, HF⟩
      case measure => first | (simp [intOf]; done) | (simp [intOf]; omega)
    · obtain rfl : i = n := by omega
      have hnn : S'.nums = [] := by rw [hd, HN.out, List.drop_length]
      have hq0 : S'.q = [] := List.map_eq_nil_iff.1 hnn
      have hany : S'.any = false := by unfold Ln.any; rw [hq0]; rfl
      have hfst : S'.first = 0 := by unfold Ln.first; rw [hq0]
      have htk : S'.take = S' := by unfold Ln.take; rw [hq0]
      have HTA := Lib.hid (take_any wr hLB.ln (by omega))
      have HX := Lib.hid (And.intro hLB (And.intro hany (And.intro hfst (And.intro htk (And.intro hnn hq)))))
      clear hLB hd hq hNl hfar hnn hq0 hany hfst htk HK
      go_wp2_with fail
      with_reducible refine HTA.out.mono ?_
      rintro e w4 ⟨he, hP⟩
      obtain ⟨hLB, hany, hfst, htk, hnn, hq⟩ := HX.out
      rw [hfst, hany] at he
      rw [htk] at hP
      obtain rfl := he
      obtain ⟨v4, hLB4, _⟩ := hLB.step hP
      have hLI := list_any w4 hLB4.ln (by omega)
      rw [hnn] at hLI
      have HLI := Lib.hid hLI
      have HB4 := Lib.hid (And.intro hLB4.bel hLB4.sz)
      clear hLB hany hfst htk hnn hq hP hLB4 hLI HX HTA
      go_wp2_with fail
      with_reducible refine HLI.out.mono ?_
      rintro e w5 ⟨vl, rfl, hN5, hB5, _⟩
      obtain ⟨eA, ec, rfl, _⟩ := hN5.len
      have HBB := Lib.hid (HB4.out.1.trans (hB5.mono HB4.out.2))
      clear hN5 hB5
      go_wp2_with fail
      go_ret
      exact ⟨rfl, HBB.out⟩
end Go.Proofs.Ytagfhlnedaagbaa
