/-
  The walk of MemPlays.
-/
import Derived.Test.YtdicmalfnfpmmaaDoorPlays
import Derived.Deep.RegionHeld3
namespace Go.Proofs.YtdicmalfnfpmmaaDoor
open Go.RowKit

theorem PX.drew {W : World} {g b s n : Nat} {j : Int} {f : Nat → Int} {c : Int} {A : Option Addr} {d : Nat} {w : World} (h : PX W g b s n j f c A d w) : PX W g b s n j f c A d w.drew :=
  h.keep ((Below.refl _ _).drew)
set_option maxHeartbeats 2000000 in
theorem rnew_far (n : Nat) (w : World) (h1 : 1 ≤ n) (h2 : n ≤ 4096) :
    Calls Tryd.prog 9 #[.int .i64 n] w fun e w' => ∃ A, e = .returned (.tuple #[.agg #[.slice A n n, .int .i64 0], .int .i64 0]) ∧ Us w' A n (fun _ => 0) ∧ Below w.heap.size w w' ∧ ∀ x, A = some x → w.heap.size ≤ x.block := by
  have hmk := fun W => run_make_row' (P := Tryd.prog) 27 33 (.int .u32 0) 4 Tryd.underlying27 info33 rfl .i64 .i64 n (by omega) (by omega) W
  go_enter Tryd.func9, Tryd.ntmps9
  go_wp2_with fail
  refine bodyPost_ret (v := .tuple #[.agg #[.slice (some ⟨w.heap.size + 1, 0, none⟩) n n, .int .i64 0], .int .i64 0]) (by simp [results, Tryd.results9, go_sem]) rfl ⟨_, rfl, Us.of_row ?_, ((Below.refl _ _).alloc (Nat.le_refl _) _).alloc (by simp) _, fun x e => by obtain rfl := Option.some.inj e; show w.heap.size ≤ w.heap.size + 1; omega⟩
  have := World.rowIs_made (w.alloc (.cells #[.slice (some ⟨w.heap.size + 1, 0, none⟩) n n, .int .i64 0] 29)) (.int .u32 0) n 33
  rw [show (w.alloc (.cells #[.slice (some ⟨w.heap.size + 1, 0, none⟩) n n, .int .i64 0] 29)).heap.size = w.heap.size + 1 by simp] at this
  exact this
set_option maxHeartbeats 8000000 in
set_option maxRecDepth 100000 in
theorem walk_plays (n : Int) (A : Option Addr) (cap : Nat) (l : List UseA) (w : World) (hG : GOk w) (hn : -9223372036854775808 ≤ n ∧ n ≤ 9223372036854775807) (hwf : ∀ y ∈ l, WfUse y) (hA : UsesAt w A l) (_ : l.length ≤ 140737488355328) :
    Calls Tryd.prog 3 #[.int .i64 n, .slice A l.length cap] w fun e w' => e = .returned (.bool true) ∧ Below w.heap.size w w' := by
  have HG := Lib.hid hG
  have HA := Lib.hid hA
  have HWF := Lib.hid hwf
  by_cases hin : 1 ≤ n ∧ n ≤ 4096
  · obtain ⟨N, rfl⟩ := Int.eq_ofNat_of_zero_le (by omega : 0 ≤ n)
    have hN1 : 1 ≤ N := by omega
    have hN2 : N ≤ 4096 := by omega
    have H1N := Lib.hid hN1
    have H2N := Lib.hid hN2
    clear hin hn hG hA hwf hN1 hN2
    go_enter Tryd.func3, Tryd.ntmps3
    go_wp2_with fail
    with_reducible refine (new_yes N _ H1N.out H2N.out).mono ?_
    rintro e w1 ⟨g, b, rfl, hM, h1, h2, hB⟩
    have HS1 := Lib.hid (St.new HG.out hM h1 h2 hB)
    clear hM h1 h2 hB
    go_wp2_with fail
    with_reducible refine (rnew_far N _ H1N.out H2N.out).mono ?_
    rintro e w2 ⟨A1, rfl, hU, hB, hfar⟩
    have hp : PX w g b w2.heap.size N 0 (fun _ => 0) 0 A1 N (w2.alloc (.cells #[.slice A1 N N, .int .i64 0] 29)) := by
      have hst := HS1.out
      have hst2 := hst.keep hB
      have hg := hst.mem.ltg
      have hb := hst.mem.row.lt
      have hs := hB.size
      have hW := hst2.hB
      exact ⟨Int.le_refl _, Int.le_refl _, hst2.keep ((Below.refl _ _).alloc (Nat.le_refl _) _), fun _ _ => ⟨by omega, by omega⟩, hU.keep ((Below.refl _ _).alloc (Nat.le_refl _) _), KB.new _ _ _ _ _, fun b' o' e hn => by
        have h1 := hfar _ e
        simp at h1
        subst e
        have h2 := hU.lt hn
        omega, by omega, by omega, hW⟩
    have HP := Lib.hid hp
    clear hp hU hB hfar
    go_wp2_with fail
    with_reducible refine (awake_any _ HP.out.st.gok).mono ?_
    rintro e w3 ⟨rfl, hB⟩
    have HP3 := Lib.hid (HP.out.keep hB)
    clear hB
    go_wp2_with fail
    go_loopw [9] (fun i wr => ∃ (j : Nat) (f : Nat → Int) (c : Int) (A' : Option Addr) (d' : Nat), j ≤ 60 ∧ i = .int .i64 j ∧ PX w g b w2.heap.size N j f c A' d' wr) (fun i _ => 60 - (intOf i).toNat)
    case atStart => exact ⟨0, _, _, _, _, by omega, rfl, HP3.out⟩
    case round =>
      obtain ⟨j, f, c, A', d', hj, rfl, hp⟩ := hrel
      have HX := Lib.hid hp
      by_cases h60 : j < 60
      · by_cases hlt : j < l.length
        · obtain ⟨y, hy⟩ : ∃ y, y = l.getD j dX := ⟨_, rfl⟩
          have hwy : WfUse y := by rw [hy]; exact HWF.out _ (getD_mem dX hlt)
          obtain ⟨b0, o0, rfl⟩ := Arr.head HA.out hlt
          obtain ⟨z0, z1, z2, z3⟩ := UsesAt.cell (UsesAt.wide HA.out hp.st.bel) hlt hy
          obtain ⟨y0, y1, y2, y3⟩ := y
          obtain ⟨_, _, _, wv⟩ := hwy
          have WV := Lib.hid wv
          dsimp only at z0 z1 z2 z3
          clear hy hp wv
          obtain ⟨K, hK⟩ : ∃ K, K = kindN y0 := ⟨_, rfl⟩
          have HK := Lib.hid (show K ≤ 5 from hK ▸ kindN_le y0)
          have HUS := Lib.hid (fun W => use_any y0 y1 y2 y3 W)
          have HDO := Lib.hid (fun (f : Nat → Int) (c : Int) W hG hM hc => does_any K y1 y2 y3 g b N f c W HK.out hG hM H2N.out hc)
          have HRI := Lib.hid (fun (A : Option Addr) (d : Nat) (f : Nat → Int) (c : Int) W hA hc hwf => right_any K y1 y2 y3 A N d f c W HK.out hA H2N.out hc hwf WV.out)
          rw [← hK] at HUS
          simp only [xV] at HUS HDO HRI
          clear hK
          go_wp2_with fail
          with_reducible refine (HUS.out _).mono ?_
          rintro e w4 ⟨rfl, hB⟩
          have hp4 := HX.out.keep hB
          have hal : Below w4.heap.size w4 (w4.alloc (.cells #[.int .i64 K, .int .i64 y1, .int .u32 y2, .int .u32 y3] 35)) := (Below.refl _ _).alloc (Nat.le_refl _) _
          have hx := XB.new w4 K y1 y2 y3
          have n1 : w4.heap.size ≠ g := by have := hp4.st.mem.ltg; omega
          have n2 : w4.heap.size ≠ b := by have := hp4.st.mem.row.lt; omega
          have HP5 := Lib.hid (hp4.keep hal)
          have HXB := Lib.hid hx
          have HN := Lib.hid (And.intro n1 n2)
          have HC := Lib.hid (show (0:Int) ≤ c ∧ c ≤ 1000 from ⟨hp4.c0, by have := hp4.cj; omega⟩)
          clear hB hp4 hal hx n1 n2 z0 z1 z2 z3
          go_wp2_with fail
          with_reducible refine (HDO.out f c _ HP5.out.st.gok HP5.out.st.mem HC.out).mono ?_
          rintro e w6 ⟨rfl, hM, hE⟩
          have hy6 := HP5.out.does hM hE WV.out
          have hx6 := HXB.out.else hE HN.out.1 HN.out.2
          have HY6 := Lib.hid hy6
          have k0 := hy6.kb.c0
          have k1 := hy6.kb.c1
          obtain ⟨x0, x1, x2, x3⟩ := hx6
          clear hM hE hy6
          go_wp2_with fail
          with_reducible refine (HRI.out A' d' f c _ HY6.out.us HC.out HX.out.wf).mono ?_
          unfold RP
          rintro e w7 ⟨A7, d7, rfl, hU, hB, hfar⟩
          have hal7 : Below w7.heap.size w7 (w7.alloc (.cells #[.slice A7 N d7, .int .i64 (stepC N y1 c)] 29)) := (Below.refl _ _).alloc (Nat.le_refl _) _
          have HP7 := Lib.hid (HY6.out.right (d' := d7) (below_two hB hal7) (hU.keep hal7) hfar)
          have hk7 := HY6.out.kb.keep hB
          have k0 := hk7.c0
          have k1 := hk7.c1
          have k2 := hk7.fz 0
          have k3 := hk7.fz 1
          have hk8 := hk7.keep (w' := w7.alloc (.cells #[.slice A7 N d7, .int .i64 (stepC N y1 c)] 29)) ((Below.refl _ _).alloc (Nat.le_refl _) _)
          have q0 := hk8.c0
          have q1 := hk8.c1
          have q2 := hk8.fz 0
          have q3 := hk8.fz 1
          have r1 := HP7.out.kb.c1
          clear hU hB hfar hk7 hk8 hal7
          go_wp2_with fail
          go_region_held3 (fun w' => w'.cell? ⟨w2.heap.size, 1, none⟩ = some (.int .i64 (stepC N y1 c))) (first | exact r1 | go_keep)
            (first
              | (go_at_call 14
                 refine (count_any g b N _ _ _ HP7.out.st.mem.drew).mono ?_
                 rintro e w8 ⟨rfl, rfl⟩))
          go_wp2_with fail
          all_goals
            go_roundw
            case rel => exact ⟨j + 1, _, _, _, _, by omega, by go_num, by rw [show ((j + 1 : Nat) : Int) = (j : Int) + 1 by omega]; exact HP7.out.drew⟩
            case measure => simp [intOf]; omega
        · have k0 := hp.kb.c0
          clear hp
          go_wp2_with fail
          go_region_held3 (fun w' => w'.cell? ⟨w2.heap.size, 0, none⟩ = some (.slice A' N d')) (first | exact k0 | go_keep)
            (first
              | (go_at_call 16
                 refine (words_any g b N f c _ HX.out.st.mem.drew H2N.out).mono ?_
                 rintro e w5 ⟨q, rfl, hO, hq, hB⟩
                 have HX5 := Lib.hid (HX.out.drew.keep hB)
                 have k5 := HX5.out.kb.c0
                 have HO := Lib.hid (Us.of_row hO)
                 clear hO hq hB)
              | (go_at_call 15
                 refine (same_yes _ _ _ _ N f _ HO.out HX5.out.us H2N.out).mono ?_
                 rintro e w6 ⟨rfl, hB⟩
                 have HX6 := Lib.hid (HX5.out.keep hB)
                 have k6 := HX6.out.kb.c0
                 clear hB))
          go_wp2_with fail
          go_ret
          exact ⟨rfl, HX6.out.st.bel⟩
      · by_cases hlt : j < l.length
        · have k0 := hp.kb.c0
          clear hp
          go_wp2_with fail
          go_region_held3 (fun w' => w'.cell? ⟨w2.heap.size, 0, none⟩ = some (.slice A' N d')) (first | exact k0 | go_keep)
            (first
              | (go_at_call 16
                 refine (words_any g b N f c _ HX.out.st.mem.drew H2N.out).mono ?_
                 rintro e w5 ⟨q, rfl, hO, hq, hB⟩
                 have HX5 := Lib.hid (HX.out.drew.keep hB)
                 have k5 := HX5.out.kb.c0
                 have HO := Lib.hid (Us.of_row hO)
                 clear hO hq hB)
              | (go_at_call 15
                 refine (same_yes _ _ _ _ N f _ HO.out HX5.out.us H2N.out).mono ?_
                 rintro e w6 ⟨rfl, hB⟩
                 have HX6 := Lib.hid (HX5.out.keep hB)
                 have k6 := HX6.out.kb.c0
                 clear hB))
          go_wp2_with fail
          go_ret
          exact ⟨rfl, HX6.out.st.bel⟩
        · have k0 := hp.kb.c0
          clear hp
          go_wp2_with fail
          go_region_held3 (fun w' => w'.cell? ⟨w2.heap.size, 0, none⟩ = some (.slice A' N d')) (first | exact k0 | go_keep)
            (first
              | (go_at_call 16
                 refine (words_any g b N f c _ HX.out.st.mem.drew H2N.out).mono ?_
                 rintro e w5 ⟨q, rfl, hO, hq, hB⟩
                 have HX5 := Lib.hid (HX.out.drew.keep hB)
                 have k5 := HX5.out.kb.c0
                 have HO := Lib.hid (Us.of_row hO)
                 clear hO hq hB)
              | (go_at_call 15
                 refine (same_yes _ _ _ _ N f _ HO.out HX5.out.us H2N.out).mono ?_
                 rintro e w6 ⟨rfl, hB⟩
                 have HX6 := Lib.hid (HX5.out.keep hB)
                 have k6 := HX6.out.kb.c0
                 clear hB))
          go_wp2_with fail
          go_ret
          exact ⟨rfl, HX6.out.st.bel⟩
  · have HI := Lib.hid hin
    clear hin hn hG hA hwf
    go_enter Tryd.func3, Tryd.ntmps3
    go_wp2_with fail
    with_reducible refine (new_no n _ HI.out).mono ?_
    rintro e w1 ⟨rfl, rfl⟩
    go_wp2_with fail
    with_reducible refine (rnew_no n _ HI.out).mono ?_
    rintro e w2 ⟨rfl, hB⟩
    have HB2 := Lib.hid (hB.trans ((Below.refl _ _).alloc hB.size (.cells #[.slice none 0 0, .int .i64 0] 29)))
    clear hB
    go_wp2_with fail
    with_reducible refine (awake_any _ (HG.out.keep HB2.out)).mono ?_
    rintro e w3 ⟨rfl, hB⟩
    have HB3 := Lib.hid (below_two HB2.out hB)
    clear hB
    go_wp2_with fail
    go_ret
    exact ⟨rfl, HB3.out⟩
end Go.Proofs.YtdicmalfnfpmmaaDoor
