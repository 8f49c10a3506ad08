/-
  slices.stableCmpFunc and slices.SortStableFunc, walked.
-/
import Derived.Test.YtagfhlnedaagbaaStb
namespace Go.Proofs.Ytagfhlnedaagbaa
open Go.RowKit

def StbP (key : Int → Int) (pos : Int → Nat) (w0 : World) (g n c : Nat) (o : List Int) (e : Ending) (w' : World) : Prop := e = .returned (.tuple #[]) ∧ ∃ Z, Z.Perm o ∧ Z.Pairwise (Ord key pos) ∧ SR w0 w' g n c Z
set_option maxHeartbeats 4000000 in
theorem stable_any (K : FuncId) (cap : Array Value) (key : Int → Int) (pos : Int → Nat) (g n c : Nat) (w0 w : World) (o : List Int) (hK : Enters K) (hC : SortC K cap (fun x y => cmpI (key x) (key y)) g w0 o) (hn : n ≤ 100000) (hS : SR w0 w g n c o) (ho : o.Pairwise fun x y => pos x < pos y) :
    Calls Try.prog 49 #[slV g n c, nV n, .func (.func K) #[] cap] w fun e w' => StbP key pos w0 g n c o e w' := by
  have hol := hS.len
  have HK := Lib.hid hK
  have HC := Lib.hid hC
  have HS := Lib.hid hS
  have HO := Lib.hid ho
  have HOL := Lib.hid hol
  clear hC hS ho hol hK
  go_enter Try.func49, Try.ntmps49
  go_wp2_with fail
  go_loopw [7, 8] (fun av bv wr => ∃ (a : Nat) (l : List Int), av = .int .i64 a ∧ bv = .int .i64 ((a : Int) + 20) ∧ a ≤ n ∧ Hid (First20 key pos o l a) ∧ Hid (SR w0 wr g n c l)) (fun av _ _ => n - (intOf av).toNat)
  case atStart => exact ⟨0, o, rfl, rfl, Nat.zero_le _, ⟨[], by simp, by simp, by simp, by simp, List.Pairwise.nil, rfl⟩, HS.out⟩
  case round =>
    obtain ⟨a, l, rfl, rfl, han, HF, HR⟩ := hrel
    by_cases hlt : a + 20 ≤ n
    · obtain ⟨P, X, S, hl, hP, hX, hXo, hfin⟩ := First20.part HO.out HF (b := a + 20) (by omega) (by have := HOL.out; omega)
      have hF0 : First20 key pos o l a := HF
      have hR0 : SR w0 wr g n c l := HR
      have hmem : ∀ x ∈ P ++ (X ++ S), x ∈ o := fun x hx => hF0.perm.mem_iff.1 (by rw [hl]; exact hx)
      have HI := Lib.hid (isort_any K cap key pos g n c a (a + 20) w0 wr o P X S HK.out HC.out hn (by rw [← hl]; exact hR0) hmem hP.symm (by omega) hXo)
      have HFN := Lib.hid hfin
      have e1 : IntKind.i64.wrap ((a : Int) + 20 + 20) = (a : Int) + 20 + 20 := by rw [IntKind.wrap_i64]; omega
      have e2 : ((a + 20 : Nat) : Int) = (a : Int) + 20 := by omega
      rw [e2] at HI
      clear hF0 hR0 hmem hl hP hX hXo hfin HF HR e2
      go_wp2_with fail
      with_reducible refine HI.out.mono ?_
      rintro e w1 ⟨rfl, Z, hZ, hZo, hW⟩
      have H1 := Lib.hid ((HFN.out Z hZ hZo).1 (by first | rfl | trivial))
      have H2 := Lib.hid hW
      clear hZ hZo hW
      go_wp2_with fail
      go_roundw
      case rel => exact ⟨a + 20, P ++ (Z ++ S), by go_num, by go_num, by omega, H1.out, H2.out⟩
      case measure => first | (simp [intOf]; done) | (simp [intOf]; omega)
    · obtain ⟨P, X, S, hl, hP, hX, hXo, hfin⟩ := First20.part HO.out HF (b := n) han (by have := HOL.out; omega)
      have hF0 : First20 key pos o l a := HF
      have hR0 : SR w0 wr g n c l := HR
      have hmem : ∀ x ∈ P ++ (X ++ S), x ∈ o := fun x hx => hF0.perm.mem_iff.1 (by rw [hl]; exact hx)
      have HI := Lib.hid (isort_any K cap key pos g n c a n w0 wr o P X S HK.out HC.out hn (by rw [← hl]; exact hR0) hmem hP.symm (by omega) hXo)
      have HFN := Lib.hid hfin
      clear hF0 hR0 hmem hl hP hX hXo hfin HF HR
      go_wp2_with fail
      with_reducible refine HI.out.mono ?_
      rintro e w1 ⟨rfl, Z, hZ, hZo, hW⟩
      have H1 := Lib.hid ((HFN.out Z hZ hZo).2 HOL.out.symm (by omega))
      have H2 := Lib.hid hW
      clear hZ hZo hW
      go_wp2_with fail
      go_loopw [6, 7, 8, 9] (fun sv av bv mv wr => ∃ (bs : Nat) (l : List Int), sv = .int .i64 bs ∧ 0 < bs ∧ bs ≤ 2 * n + 20 ∧ Hid (Bks key pos o l bs) ∧ Hid (SR w0 wr g n c l)) (fun sv _ _ _ _ => n - (intOf sv).toNat)
      case atStart => exact ⟨20, P ++ (Z ++ S), rfl, by omega, by omega, H1.out, H2.out⟩
      case round =>
        clear H1 H2 HI
        obtain ⟨bs, l, rfl, hb0, hbn, HB, HR⟩ := hrel
        by_cases hbl : bs < n
        · have HM0 : Hid (Mid key pos o l bs 0) := Bks.mid HB
          have e1 : IntKind.i64.wrap (2 * (bs : Int)) = 2 * (bs : Int) := by rw [IntKind.wrap_i64]; omega
          have e2 : IntKind.i64.wrap ((bs : Int) * 2) = 2 * (bs : Int) := by rw [IntKind.wrap_i64]; omega
          clear HB
          go_wp2_with fail
          go_loopw [7, 8] (fun av bv wr => ∃ (a : Nat) (l : List Int), av = .int .i64 a ∧ bv = .int .i64 ((a : Int) + 2 * (bs : Int)) ∧ a ≤ n ∧ Hid (Mid key pos o l bs a) ∧ Hid (SR w0 wr g n c l)) (fun av _ _ => n - (intOf av).toNat)
          case atStart => exact ⟨0, l, rfl, by first | rfl | go_num | simp, Nat.zero_le _, HM0, HR⟩
          case round =>
            clear HM0 HR
            obtain ⟨a, l, rfl, rfl, han, HM, HR⟩ := hrel
            have hM0 : Mid key pos o l bs a := HM
            have hR0 : SR w0 wr g n c l := HR
            have hmem : ∀ x ∈ l, x ∈ o := fun x hx => by
              obtain ⟨Ws, Zs, hk, _⟩ := hM0
              exact hk.perm.mem_iff.1 hx
            by_cases hlt2 : a + 2 * bs ≤ n
            · obtain ⟨P, X, Y, S, hl, hP, hX, hY, oX, oY, hxy, hfin⟩ := hM0.two hb0 (b := a + 2 * bs) (by omega) (by have := HOL.out; omega) (.inl rfl)
              have HI := Lib.hid (sym_any K cap key pos g n c w0 o HK.out HC.out hn (X.length + Y.length + 1) a (a + bs) (a + 2 * bs) wr P X Y S (by omega) (by omega) (by omega) (by rw [← hl]; exact hR0) (fun x hx => hmem x (by rw [hl]; simp [hx])) (fun y hy => hmem y (by rw [hl]; simp [hy])) oX oY hxy hP.symm (by omega) (by omega))
              have HFN := Lib.hid hfin
              have e3 : IntKind.i64.wrap ((a : Int) + (bs : Int)) = (a : Int) + (bs : Int) := by rw [IntKind.wrap_i64]; omega
              have e4 : IntKind.i64.wrap ((a : Int) + 2 * (bs : Int) + 2 * (bs : Int)) = (a : Int) + 2 * (bs : Int) + 2 * (bs : Int) := by rw [IntKind.wrap_i64]; omega
              have e5 : (a : Int) + 2 * (bs : Int) ≤ (n : Int) := by omega
              rw [show ((a + bs : Nat) : Int) = (a : Int) + (bs : Int) by omega, show ((a + 2 * bs : Nat) : Int) = (a : Int) + 2 * (bs : Int) by omega] at HI
              clear hM0 hR0 hmem hl hP hX hY oX oY hxy hfin HM HR
              go_wp2_with fail
              with_reducible refine HI.out.mono ?_
              rintro e w1 ⟨rfl, Z, hZ, hZo, hW⟩
              have H1 := Lib.hid ((HFN.out Z hZ hZo).1 (by first | rfl | trivial))
              have H2 := Lib.hid hW
              clear hZ hZo hW
              go_wp2_with fail
              go_roundw
              case rel => exact ⟨a + 2 * bs, P ++ (Z ++ S), by rw [show ((a + 2 * bs : Nat) : Int) = (a : Int) + 2 * (bs : Int) by omega], by rw [show ((a + 2 * bs : Nat) : Int) = (a : Int) + 2 * (bs : Int) by omega], by omega, H1.out, H2.out⟩
              case measure => first | (simp [intOf]; done) | (simp [intOf]; omega)
            · have e3 : IntKind.i64.wrap ((a : Int) + (bs : Int)) = (a : Int) + (bs : Int) := by rw [IntKind.wrap_i64]; omega
              have e5 : ¬ ((a : Int) + 2 * (bs : Int) ≤ (n : Int)) := by omega
              by_cases hmn : a + bs < n
              · obtain ⟨P, X, Y, S, hl, hP, hX, hY, oX, oY, hxy, hfin⟩ := hM0.two hb0 (b := n) hmn (by have := HOL.out; omega) (.inr ⟨HOL.out.symm, by omega⟩)
                have HI := Lib.hid (sym_any K cap key pos g n c w0 o HK.out HC.out hn (X.length + Y.length + 1) a (a + bs) n wr P X Y S (by omega) (by omega) (by omega) (by rw [← hl]; exact hR0) (fun x hx => hmem x (by rw [hl]; simp [hx])) (fun y hy => hmem y (by rw [hl]; simp [hy])) oX oY hxy hP.symm (by omega) (by omega))
                have HFN := Lib.hid hfin
                have e6 : (a : Int) + (bs : Int) < (n : Int) := by omega
                rw [show ((a + bs : Nat) : Int) = (a : Int) + (bs : Int) by omega] at HI
                clear hM0 hR0 hmem hl hP hX hY oX oY hxy hfin HM HR
                go_wp2_with fail
                with_reducible refine HI.out.mono ?_
                rintro e w1 ⟨rfl, Z, hZ, hZo, hW⟩
                have H1 := Lib.hid ((HFN.out Z hZ hZo).2 HOL.out.symm)
                have H2 := Lib.hid hW
                clear hZ hZo hW
                go_wp2_with fail
                go_roundw
                case rel => exact ⟨2 * bs, P ++ (Z ++ S), by rw [show ((2 * bs : Nat) : Int) = 2 * (bs : Int) by omega], by omega, by omega, H1.out, H2.out⟩
                case measure => first | (simp [intOf]; done) | (simp [intOf]; omega)
              · have H1 := Lib.hid (hM0.rest hb0 (by have := HOL.out; omega))
                have H2 := Lib.hid hR0
                have e6 : ¬ ((a : Int) + (bs : Int) < (n : Int)) := by omega
                clear hM0 hR0 hmem HM HR
                go_wp2_with fail
                go_roundw
                case rel => exact ⟨2 * bs, l, by rw [show ((2 * bs : Nat) : Int) = 2 * (bs : Int) by omega], by omega, by omega, H1.out, H2.out⟩
                case measure => first | (simp [intOf]; done) | (simp [intOf]; omega)
        · have HF : Hid (StbP key pos w0 g n c o (.returned (.tuple #[])) wr) := by
            obtain ⟨h1, h2⟩ := Bks.done hb0 HB (by have := HOL.out; omega)
            exact ⟨rfl, l, h1, h2, HR⟩
          clear HB HR
          go_wp2_with fail
          go_end0
          exact HF
theorem sorts_any (K : FuncId) (cap : Array Value) (key : Int → Int) (pos : Int → Nat) (g n c : Nat) (w0 w : World) (o : List Int) (hK : Enters K) (hC : SortC K cap (fun x y => cmpI (key x) (key y)) g w0 o) (hn : n ≤ 100000) (hS : SR w0 w g n c o) (ho : o.Pairwise fun x y => pos x < pos y) :
    Calls Try.prog 42 #[slV g n c, .func (.func K) #[] cap] w fun e w' => StbP key pos w0 g n c o e w' := by
  have HI := Lib.hid (stable_any K cap key pos g n c w0 w o hK hC hn hS ho)
  clear hC hS ho hK
  go_enter Try.func42, Try.ntmps42
  go_wp2_with fail
  with_reducible refine HI.out.mono ?_
  rintro e w1 ⟨rfl, hW⟩
  have HW := Lib.hid hW
  clear hW
  go_wp2_with fail
  go_end0
  exact ⟨rfl, HW.out⟩
end Go.Proofs.Ytagfhlnedaagbaa
