/-
  The walk of PathsEnds.
-/
import Derived.Test.YtjiikhfeacgjjaaWalkGoes
namespace Go.Proofs.Ytjiikhfeacgjjaa
open Go.RowKit

/-- What a round knows: two lists of numbers. -/
structure EI (N : Nat) (hs : List ChanA) (a : Int) (k : Nat) (w0 : World) (v1 v2 : Value) (w : World) : Prop where
  bel : Below w0.heap.size w0 w
  o1 : OwnN w w0.heap.size v1 (whL N (toB a) hs k)
  o2 : OwnN w w0.heap.size v2 (whL N (fromB a) hs k)
  ne : ∀ b, v1.ownBlock = some b → v2.ownBlock ≠ some b
theorem EI.keep {N : Nat} {hs : List ChanA} {a : Int} {k : Nat} {w0 w w' : World} {v1 v2 : Value} (h : EI N hs a k w0 v1 v2 w) (hB : Below w.heap.size w w') : EI N hs a k w0 v1 v2 w' :=
  ⟨h.bel.trans (hB.mono h.bel.size), h.o1.below hB, h.o2.below hB, h.ne⟩
/-- A number more in one list. -/
structure EJ (N : Nat) (hs : List ChanA) (l1 l2 : List Nat) (w0 : World) (v1 v2 : Value) (w : World) : Prop where
  bel : Below w0.heap.size w0 w
  o1 : OwnN w w0.heap.size v1 l1
  o2 : OwnN w w0.heap.size v2 l2
  ne : ∀ b, v1.ownBlock = some b → v2.ownBlock ≠ some b
theorem EJ.keep {N : Nat} {hs : List ChanA} {l1 l2 : List Nat} {w0 w w' : World} {v1 v2 : Value} (h : EJ N hs l1 l2 w0 v1 v2 w) (hB : Below w.heap.size w w') : EJ N hs l1 l2 w0 v1 v2 w' :=
  ⟨h.bel.trans (hB.mono h.bel.size), h.o1.below hB, h.o2.below hB, h.ne⟩
theorem EJ.swap {N : Nat} {hs : List ChanA} {l1 l2 : List Nat} {w0 w : World} {v1 v2 : Value} (h : EJ N hs l1 l2 w0 v1 v2 w) : EJ N hs l2 l1 w0 v2 v1 w := ⟨h.bel, h.o2, h.o1, fun b h2 h1 => h.ne b h1 h2⟩
theorem EJ.push {N g cap k : Nat} {hs : List ChanA} {l1 l2 : List Nat} {w0 w w' : World} {v1 v2 : Value} (h : EJ N hs l1 l2 w0 v1 v2 w) (hown : w'.ownsRow w0.heap.size 3 1 (.slice (some ⟨g, 0, none⟩) (l1.length + 1) cap) (l1.length + 1) (numsV l1 ++ [.int .i64 (k : Int)])) (hg : w.grownBy w' v1.ownBlock) (hat : v1.ownBlock = some g ∨ g = w.heap.size) :
    EJ N hs (l1 ++ [k]) l2 w0 (.slice (some ⟨g, 0, none⟩) (l1.length + 1) cap) v2 w' := by
  refine ⟨h.bel.grown hg h.bel.size (fun b hb => (World.ownsRow.lt h.o1 b hb).1), ?_, own_keep h.o2 fun b hb => hg.block b (World.ownsRow.lt h.o2 b hb).2 (fun e => h.ne b e.symm hb), fun b hb h2 => ?_⟩
  · have e : numsV (l1 ++ [k]) = numsV l1 ++ [.int .i64 (k : Int)] := by unfold numsV; simp
    unfold OwnN
    rw [e, List.length_append]
    exact hown
  · have : g = b := by simpa [Value.ownBlock] using hb
    subst this
    rcases hat with e | e
    · exact h.ne _ e h2
    · have := (World.ownsRow.lt h.o2 _ h2).2
      omega
theorem EI.j {N : Nat} {hs : List ChanA} {a : Int} {k : Nat} {w0 w : World} {v1 v2 : Value} (h : EI N hs a k w0 v1 v2 w) : EJ N hs (whL N (toB a) hs k) (whL N (fromB a) hs k) w0 v1 v2 w := ⟨h.bel, h.o1, h.o2, h.ne⟩
theorem EI.of {N : Nat} {hs : List ChanA} {a : Int} {k : Nat} {w0 w : World} {v1 v2 : Value} {l1 l2 : List Nat} (h : EJ N hs l1 l2 w0 v1 v2 w) (h1 : l1 = whL N (toB a) hs k) (h2 : l2 = whL N (fromB a) hs k) : EI N hs a k w0 v1 v2 w := by subst h1 h2; exact ⟨h.bel, h.o1, h.o2, h.ne⟩
theorem wh_no {N : Nat} {hs : List ChanA} {f : ChanA → Bool} {k : Nat} (h : (btwB N (hs.getD k dC) && f (hs.getD k dC)) = false) : whL N f hs k = whL N f hs (k + 1) := by rw [whL_succ]; unfold whB; rw [if_neg (by rw [h]; simp)]
theorem wh_yes {N : Nat} {hs : List ChanA} {f : ChanA → Bool} {k : Nat} (h : (btwB N (hs.getD k dC) && f (hs.getD k dC)) = true) : whL N f hs k ++ [k] = whL N f hs (k + 1) := by rw [whL_succ]; unfold whB; rw [if_pos h]

set_option maxHeartbeats 16000000 in
set_option maxRecDepth 100000 in
theorem walk_ends (P : PlanA) (L : PlanL) (a b : Int) (w : World) (hP : PlanAt w P L) (hO : POk P L) : Calls Try.prog 5 #[planV P L, .int .i64 a, .int .i64 b] w fun e w' => e = .returned (.bool true) ∧ Below w.heap.size w w' := by
  obtain ⟨i0, hi, hz0, hz1, hz2⟩ := info_parts info3
  have HI0 := Lib.hid hi
  have HZ0 := Lib.hid hz0
  have HZ1 := Lib.hid hz1
  have HZ2 := Lib.hid hz2
  clear hi hz0 hz1 hz2
  have HFEW := Lib.hid (fun W hP => few_any P L W hP hO)
  have HENDS := Lib.hid (fun W hP hF => ends_any P L a W hP hO.wf hO.l2 (Few.l3 hF))
  have HRT := Lib.hid (fun c W hc => right_any P L c W hO.l2 hc)
  have HEX := Lib.hid (fun W hP => excludes_any P L a b W hP hO.wf hO.l2 hO.l4)
  have HREX := Lib.hid (fun W hP => refExcludes_any P L a b W hP hO.wf hO.l2 hO.l4)
  have HP := Lib.hid hP
  have hl2 := hO.l2
  have HC := Lib.hid hO.wf.2.2.2.1
  obtain ⟨fr, cs, ps, hs, rs⟩ := P
  obtain ⟨A1, c1, A2, c2, A3, c3, A4, c4⟩ := L
  have HB0 : Hid (Below w.heap.size w (w.alloc (.cells #[.int .u16 fr, .slice A1 cs.length c1, .slice A2 ps.length c2, .slice A3 hs.length c3, .slice A4 rs.length c4] 28))) := (Below.refl _ _).alloc (Nat.le_refl _) _
  have HPB := Lib.hid (PBn.new w fr A1 cs.length c1 A2 ps.length c2 A3 hs.length c3 A4 rs.length c4)
  have HCH := Lib.hid hP.chans
  simp only [planV, cv] at *
  obtain ⟨xq, hxq⟩ : ∃ q, q = excB ps.length a b rs := ⟨_, rfl⟩
  rw [← hxq] at HEX HREX
  obtain ⟨N, hN⟩ : ∃ N, N = ps.length := ⟨_, rfl⟩
  obtain ⟨m, hm⟩ : ∃ m, m = hs.length := ⟨_, rfl⟩
  rw [← hN] at HEX HREX HENDS HRT HPB HB0 HFEW hl2 ⊢
  rw [← hm] at HEX HREX HRT HPB HB0 HFEW ⊢
  rw [← hm] at HENDS
  have HM := Lib.hid hm
  clear hP hO hxq hN hm
  go_enter Try.func5, Try.ntmps5
  go_wp2_with fail
  refine (HFEW.out _ (HP.out.keep HB0.out)).mono ?_
  rintro e w1 ⟨⟨q, rfl, hb⟩, hB⟩
  obtain ⟨k0, k1, k2, k3, k4⟩ := HPB.out.keep hB
  have HB1 := Lib.hid (below_two HB0.out hB)
  have HPB1 := Lib.hid (HPB.out.keep hB)
  have HFB := Lib.hid hb
  clear hB hb
  cases q
  · go_wp2_with fail
    refine (awake_any _).mono ?_
    rintro e w2 ⟨rfl, hB⟩
    have HB2 := Lib.hid (below_two HB1.out hB)
    clear hB
    go_wp2_with fail
    go_ret
    exact ⟨rfl, HB2.out⟩
  have hF := HFB.out rfl
  have h3 := hF.l3
  dsimp only at h3
  rw [← HM.out] at h3
  have HE := Lib.hid (HENDS.out _ (HP.out.keep HB1.out) hF)
  clear hF
  go_wp2_with fail
  refine HE.out.mono ?_
  rintro e w2 ⟨E1, e1, E2, e2, rfl, hn1, hn2, hB⟩
  rw [← HM.out] at hn1 hn2 ⊢
  have HB2 := Lib.hid (below_two HB1.out hB)
  have HPB2 := Lib.hid (HPB1.out.keep hB)
  have HN1 := Lib.hid hn1
  have HN2 := Lib.hid hn2
  clear hB hn1 hn2 k0 k1 k2 k3 k4
  obtain ⟨W3, hW3⟩ : ∃ W3, W3 = (w2.alloc (.cells #[] 3)).alloc (.cells #[] 3) := ⟨_, rfl⟩
  have hsa : (w2.alloc (.cells #[] 3)).heap.size = w2.heap.size + 1 := by simp
  have hb3 : Below w2.heap.size w2 W3 := by rw [hW3]; exact ((Below.refl _ _).alloc (Nat.le_refl _) _).alloc (by simp) _
  have hst : EI N hs a 0 w2 (.slice (some ⟨w2.heap.size, 0, none⟩) 0 0) (.slice (some ⟨w2.heap.size + 1, 0, none⟩) 0 0) W3 := by
    refine ⟨hb3, ?_, ?_, fun b h1 h2 => ?_⟩
    · rw [hW3]
      exact World.ownsRow.alloc (World.ownsRow_lit w2 #[] 0 (Nat.le_refl _) (by decide) rfl) _
    · rw [hW3, ← hsa]
      exact World.ownsRow_lit _ #[] 0 (by simp) (by decide) rfl
    · have e1 : w2.heap.size = b := by simpa [Value.ownBlock] using h1
      have e2 : w2.heap.size + 1 = b := by simpa [Value.ownBlock] using h2
      omega
  have HST := Lib.hid hst
  have HW3 := Lib.hid hW3
  clear hsa hb3 hst hW3
  go_wp2_with fail
  rw [← HW3.out]
  go_loopw [9, 10, 11] (fun v1 v2 i wr => ∃ k : Nat, k ≤ m ∧ i = .int .i64 k ∧ EI N hs a k w2 v1 v2 wr) (fun _ _ i _ => m - (intOf i).toNat)
  case atStart => exact ⟨0, Nat.zero_le _, rfl, HST.out⟩
  case round =>
    obtain ⟨k, hk, rfl, hI⟩ := hrel
    have HII := Lib.hid hI
    have hbr := below_two (Below.refl _ _) hI.bel
    obtain ⟨k0, k1, k2, k3, k4⟩ := HPB2.out.keep hI.bel
    have HBW := Lib.hid (below_two HB2.out hI.bel)
    have HPBW := Lib.hid (HPB2.out.keep hI.bel)
    by_cases hlt : k < m
    · have hlm : k < hs.length := by rw [← HM.out]; exact hlt
      obtain ⟨b1, o1, rfl⟩ := Arr.head HCH.out hlm
      have hw := HC.out _ (getD_mem dC hlm)
      obtain ⟨⟨x0, x1, x2, x3, x4, x5⟩, hx⟩ : ∃ x, x = hs.getD k dC := ⟨_, rfl⟩
      rw [← hx] at hw
      obtain ⟨cc0, cc1, cc2, cc3, cc4, cc5⟩ := ChansAt.cell (Arr.keep HCH.out HBW.out) hlm hx
      dsimp only at cc0 cc1 cc2 cc3 cc4 cc5
      have HRC := Lib.hid (fun W => HRT.out (x0, x1, x2, x3, x4, x5) W hw)
      dsimp only at HRC
      obtain ⟨-, ⟨f0, f1⟩, ⟨t0, t1⟩, -⟩ := hw
      dsimp only at f0 f1 t0 t1
      have hba : Below wr.heap.size wr (wr.alloc (.cells #[.int .u8 x0, .int .u8 x1, .int .u8 x2, .int .u8 x3, .int .u8 x4, .int .u16 x5] 44)) := (Below.refl _ _).alloc (Nat.le_refl _) _
      have HCB := Lib.hid (CB.new wr x0 x1 x2 x3 x4 x5)
      have HBA := Lib.hid hba
      obtain ⟨z0, z1, z2, z3, z4⟩ := HPBW.out.keep hba
      obtain ⟨q, hq⟩ : ∃ q, q = btwB N (x0, x1, x2, x3, x4, x5) := ⟨_, rfl⟩
      rw [← hq] at HRC
      have HX := Lib.hid hx
      have HQ := Lib.hid hq
      have hl1 := whL_len N (toB a) hs k
      have hl2' := whL_len N (fromB a) hs k
      have HW1 : Hid ((q && decide (x2 = a)) = (btwB N (hs.getD k dC) && toB a (hs.getD k dC))) := by rw [← HX.out, HQ.out]; rfl
      have HW2 : Hid ((q && decide (x1 = a)) = (btwB N (hs.getD k dC) && fromB a (hs.getD k dC))) := by rw [← HX.out, HQ.out]; rfl
      clear hI hx hq hba hlm hbr
      cases q
      · go_wp2_with fail
        with_reducible refine (HRC.out _).mono ?_
        rintro e w4 ⟨rfl, hB⟩
        obtain ⟨m0, m1, m2, m3, m4, m5⟩ := HCB.out.keep hB
        dsimp only at m0 m1 m2 m3 m4 m5
        have HJ := Lib.hid ((HII.out.j).keep (below_two HBA.out hB))
        obtain ⟨j0, j1, j2, j3, j4⟩ := HPBW.out.keep (below_two HBA.out hB)
        clear hB
        go_wp2_with fail
        with_reducible refine (HRC.out _).mono ?_
        rintro e w5 ⟨rfl, hB⟩
        have HJ3 := Lib.hid (HJ.out.keep hB)
        clear hB
        go_wp2_with fail
        go_roundw
        case rel => exact ⟨k + 1, by omega, by go_num, EI.of HJ3.out (wh_no (by rw [← HW1.out]; rfl)) (wh_no (by rw [← HW2.out]; rfl))⟩
        case measure => simp [intOf]; omega
      · by_cases e1 : x2 = a
        · subst e1
          by_cases e2 : x1 = x2
          · subst e2
            go_wp2_with fail
            with_reducible refine (HRC.out _).mono ?_
            rintro e w4 ⟨rfl, hB⟩
            obtain ⟨m0, m1, m2, m3, m4, m5⟩ := HCB.out.keep hB
            dsimp only at m0 m1 m2 m3 m4 m5
            have hJ := (HII.out.j).keep (below_two HBA.out hB)
            have HJ := Lib.hid hJ
            obtain ⟨k0, k1, k2, k3, k4⟩ := HPBW.out.keep (below_two HBA.out hB)
            have HPB4 := Lib.hid (HPBW.out.keep (below_two HBA.out hB))
            have HB4 := Lib.hid hB
            clear hJ hB z0 z1 z2 z3 z4 cc0 cc1 cc2 cc3 cc4 cc5
            have HFARN : Hid (∀ b, (b < w2.heap.size ∨ b = wr.heap.size) → u9.ownBlock ≠ some b) := fun b hb e => by
              have := World.ownsRow.lt HII.out.o1 b e
              omega
            have hown := (HJ.out).o1
            obtain ⟨Ma, hMa⟩ : ∃ M, M = (whL N (toB x1) hs k).length := ⟨_, rfl⟩
            obtain ⟨xsa, hxsa⟩ : ∃ xs, xs = numsV (whL N (toB x1) hs k) := ⟨_, rfl⟩
            have hown2 : w4.ownsRow w2.heap.size 3 1 u9 Ma xsa := by rw [hMa, hxsa]; exact hown
            have HOWN := Lib.hid hown2
            have hML : Ma ≤ k := by rw [hMa]; exact whL_len _ _ _ _
            have hbs : w2.heap.size ≤ w4.heap.size := (HJ.out).bel.size
            have HMT := Lib.hid hMa
            have HXT := Lib.hid hxsa
            clear hown hown2 hMa hxsa
            go_wp2_with (at_builtin; (refine wpList_append_lies _ rfl _ _ 40 rfl w2.heap.size 3 i0 (.int .i64 0) 1 8 Try.underlying40 HI0.out HZ0.out HZ1.out HZ2.out rfl (by decide) _ Ma xsa rfl (HOWN.out.alloc _) ⟨_, 0, none⟩ 1 1 [.int .i64 (k : Int)] rfl rfl ?d1a ?d2a (by omega) (by unfold maxLen; omega) (by omega) ?d5a _ rfl ?_))
            case d1a => exact World.news_of_block (heap_alloc_new w4 (.cells #[.int .i64 (k : Int)] 3))
            case d2a => intro u hu; simp at hu; subst hu; rfl
            case d5a => simp; omega
            intro g cap w5 hown hgrow hat hglt
            rw [HMT.out, HXT.out] at hown
            have hal : Below w4.heap.size w4 (w4.alloc (.cells #[.int .i64 (k : Int)] 3)) := (Below.refl _ _).alloc (Nat.le_refl _) _
            have hpush := ((HJ.out).keep hal).push hown hgrow (by first | exact hat | exact hat.imp id (fun e => by rw [e]; simp))
            have HJX := Lib.hid hpush
            rw [← HMT.out] at HJX
            have hfar : ∀ b o v, w4.cell? ⟨b, o, none⟩ = some v → (b < w2.heap.size ∨ b = wr.heap.size) → w5.cell? ⟨b, o, none⟩ = some v := fun b o v hc hb => by
              have hlt := cell_lt hc
              rw [hgrow.cell_far ⟨b, o, none⟩ (by simp; dsimp only at hlt; omega) (fun e => HFARN.out b hb e.symm)]
              exact kept hc hal
            replace m0 := hfar _ _ _ m0 (.inr rfl)
            replace m1 := hfar _ _ _ m1 (.inr rfl)
            replace m2 := hfar _ _ _ m2 (.inr rfl)
            replace m3 := hfar _ _ _ m3 (.inr rfl)
            replace m4 := hfar _ _ _ m4 (.inr rfl)
            replace m5 := hfar _ _ _ m5 (.inr rfl)
            have hpw : w.heap.size < w2.heap.size := cell_lt HPB2.out.1
            replace k0 := hfar _ _ _ k0 (.inl hpw)
            replace k1 := hfar _ _ _ k1 (.inl hpw)
            replace k2 := hfar _ _ _ k2 (.inl hpw)
            replace k3 := hfar _ _ _ k3 (.inl hpw)
            replace k4 := hfar _ _ _ k4 (.inl hpw)
            clear hown hgrow hat hal hpush hfar hpw
            go_wp2_with fail
            with_reducible refine (HRC.out _).mono ?_
            rintro e w6 ⟨rfl, hB⟩
            have hJ := (HJX.out).keep hB
            replace m0 := kept m0 hB
            replace m1 := kept m1 hB
            replace m2 := kept m2 hB
            clear HJ
            have HJ := Lib.hid hJ
            clear hB hJ k0 k1 k2 k3 k4 m3 m4 m5
            have hown := (HJ.out.swap).o1
            obtain ⟨Mb, hMb⟩ : ∃ M, M = (whL N (fromB x1) hs k).length := ⟨_, rfl⟩
            obtain ⟨xsb, hxsb⟩ : ∃ xs, xs = numsV (whL N (fromB x1) hs k) := ⟨_, rfl⟩
            have hown2 : w6.ownsRow w2.heap.size 3 1 u10 Mb xsb := by rw [hMb, hxsb]; exact hown
            have HOWN := Lib.hid hown2
            have hML : Mb ≤ k := by rw [hMb]; exact whL_len _ _ _ _
            have hbs : w2.heap.size ≤ w6.heap.size := (HJ.out.swap).bel.size
            have HMT := Lib.hid hMb
            have HXT := Lib.hid hxsb
            clear hown hown2 hMb hxsb
            go_wp2_with (at_builtin; (refine wpList_append_lies _ rfl _ _ 40 rfl w2.heap.size 3 i0 (.int .i64 0) 1 8 Try.underlying40 HI0.out HZ0.out HZ1.out HZ2.out rfl (by decide) _ Mb xsb rfl (HOWN.out.alloc _) ⟨_, 0, none⟩ 1 1 [.int .i64 (k : Int)] rfl rfl ?d1b ?d2b (by omega) (by unfold maxLen; omega) (by omega) ?d5b _ rfl ?_))
            case d1b => exact World.news_of_block (heap_alloc_new w6 (.cells #[.int .i64 (k : Int)] 3))
            case d2b => intro u hu; simp at hu; subst hu; rfl
            case d5b => simp; omega
            intro g cap w7 hown hgrow hat hglt
            rw [HMT.out, HXT.out] at hown
            have hal : Below w6.heap.size w6 (w6.alloc (.cells #[.int .i64 (k : Int)] 3)) := (Below.refl _ _).alloc (Nat.le_refl _) _
            have hpush := ((HJ.out.swap).keep hal).push hown hgrow (by first | exact hat | exact hat.imp id (fun e => by rw [e]; simp))
            have HJY := Lib.hid hpush.swap
            rw [← HMT.out] at HJY
            clear hown hgrow hat hal hpush m0 m1 m2
            go_wp2_with fail
            go_roundw
            case rel => exact ⟨k + 1, by omega, by go_num, EI.of HJY.out (wh_yes (by rw [← HW1.out]; simp)) (wh_yes (by rw [← HW2.out]; simp))⟩
            case measure => simp [intOf]; omega
          · have n2 : (x1 == x2) = false := by simpa using e2
            have E2 := Lib.hid e2
            clear e2
            go_wp2_with fail
            with_reducible refine (HRC.out _).mono ?_
            rintro e w4 ⟨rfl, hB⟩
            obtain ⟨m0, m1, m2, m3, m4, m5⟩ := HCB.out.keep hB
            dsimp only at m0 m1 m2 m3 m4 m5
            have hJ := (HII.out.j).keep (below_two HBA.out hB)
            have HJ := Lib.hid hJ
            obtain ⟨k0, k1, k2, k3, k4⟩ := HPBW.out.keep (below_two HBA.out hB)
            have HPB4 := Lib.hid (HPBW.out.keep (below_two HBA.out hB))
            have HB4 := Lib.hid hB
            clear hJ hB z0 z1 z2 z3 z4 cc0 cc1 cc2 cc3 cc4 cc5
            have HFARN : Hid (∀ b, (b < w2.heap.size ∨ b = wr.heap.size) → u9.ownBlock ≠ some b) := fun b hb e => by
              have := World.ownsRow.lt HII.out.o1 b e
              omega
            have hown := (HJ.out).o1
            obtain ⟨Ma, hMa⟩ : ∃ M, M = (whL N (toB x2) hs k).length := ⟨_, rfl⟩
            obtain ⟨xsa, hxsa⟩ : ∃ xs, xs = numsV (whL N (toB x2) hs k) := ⟨_, rfl⟩
            have hown2 : w4.ownsRow w2.heap.size 3 1 u9 Ma xsa := by rw [hMa, hxsa]; exact hown
            have HOWN := Lib.hid hown2
            have hML : Ma ≤ k := by rw [hMa]; exact whL_len _ _ _ _
            have hbs : w2.heap.size ≤ w4.heap.size := (HJ.out).bel.size
            have HMT := Lib.hid hMa
            have HXT := Lib.hid hxsa
            clear hown hown2 hMa hxsa
            go_wp2_with (at_builtin; (refine wpList_append_lies _ rfl _ _ 40 rfl w2.heap.size 3 i0 (.int .i64 0) 1 8 Try.underlying40 HI0.out HZ0.out HZ1.out HZ2.out rfl (by decide) _ Ma xsa rfl (HOWN.out.alloc _) ⟨_, 0, none⟩ 1 1 [.int .i64 (k : Int)] rfl rfl ?d1a ?d2a (by omega) (by unfold maxLen; omega) (by omega) ?d5a _ rfl ?_))
            case d1a => exact World.news_of_block (heap_alloc_new w4 (.cells #[.int .i64 (k : Int)] 3))
            case d2a => intro u hu; simp at hu; subst hu; rfl
            case d5a => simp; omega
            intro g cap w5 hown hgrow hat hglt
            rw [HMT.out, HXT.out] at hown
            have hal : Below w4.heap.size w4 (w4.alloc (.cells #[.int .i64 (k : Int)] 3)) := (Below.refl _ _).alloc (Nat.le_refl _) _
            have hpush := ((HJ.out).keep hal).push hown hgrow (by first | exact hat | exact hat.imp id (fun e => by rw [e]; simp))
            have HJX := Lib.hid hpush
            rw [← HMT.out] at HJX
            have hfar : ∀ b o v, w4.cell? ⟨b, o, none⟩ = some v → (b < w2.heap.size ∨ b = wr.heap.size) → w5.cell? ⟨b, o, none⟩ = some v := fun b o v hc hb => by
              have hlt := cell_lt hc
              rw [hgrow.cell_far ⟨b, o, none⟩ (by simp; dsimp only at hlt; omega) (fun e => HFARN.out b hb e.symm)]
              exact kept hc hal
            replace m0 := hfar _ _ _ m0 (.inr rfl)
            replace m1 := hfar _ _ _ m1 (.inr rfl)
            replace m2 := hfar _ _ _ m2 (.inr rfl)
            replace m3 := hfar _ _ _ m3 (.inr rfl)
            replace m4 := hfar _ _ _ m4 (.inr rfl)
            replace m5 := hfar _ _ _ m5 (.inr rfl)
            have hpw : w.heap.size < w2.heap.size := cell_lt HPB2.out.1
            replace k0 := hfar _ _ _ k0 (.inl hpw)
            replace k1 := hfar _ _ _ k1 (.inl hpw)
            replace k2 := hfar _ _ _ k2 (.inl hpw)
            replace k3 := hfar _ _ _ k3 (.inl hpw)
            replace k4 := hfar _ _ _ k4 (.inl hpw)
            clear hown hgrow hat hal hpush hfar hpw
            go_wp2_with fail
            with_reducible refine (HRC.out _).mono ?_
            rintro e w6 ⟨rfl, hB⟩
            have hJ := (HJX.out).keep hB
            replace m0 := kept m0 hB
            replace m1 := kept m1 hB
            replace m2 := kept m2 hB
            clear HJ
            have HJ := Lib.hid hJ
            clear hB hJ k0 k1 k2 k3 k4 m3 m4 m5
            go_wp2_with fail
            go_roundw
            case rel => exact ⟨k + 1, by omega, by go_num, EI.of HJ.out (wh_yes (by rw [← HW1.out]; simp)) (wh_no (by rw [← HW2.out]; simp [E2.out]))⟩
            case measure => simp [intOf]; omega
        · have n1 : (x2 == a) = false := by simpa using e1
          have E1 := Lib.hid e1
          clear e1
          by_cases e2 : x1 = a
          · subst e2
            go_wp2_with fail
            with_reducible refine (HRC.out _).mono ?_
            rintro e w4 ⟨rfl, hB⟩
            obtain ⟨m0, m1, m2, m3, m4, m5⟩ := HCB.out.keep hB
            dsimp only at m0 m1 m2 m3 m4 m5
            have hJ := (HII.out.j).keep (below_two HBA.out hB)
            have HJ := Lib.hid hJ
            obtain ⟨k0, k1, k2, k3, k4⟩ := HPBW.out.keep (below_two HBA.out hB)
            have HPB4 := Lib.hid (HPBW.out.keep (below_two HBA.out hB))
            have HB4 := Lib.hid hB
            clear hJ hB z0 z1 z2 z3 z4 cc0 cc1 cc2 cc3 cc4 cc5
            go_wp2_with fail
            with_reducible refine (HRC.out _).mono ?_
            rintro e w6 ⟨rfl, hB⟩
            have hJ := (HJ.out).keep hB
            replace m0 := kept m0 hB
            replace m1 := kept m1 hB
            replace m2 := kept m2 hB
            clear HJ
            have HJ := Lib.hid hJ
            clear hB hJ k0 k1 k2 k3 k4 m3 m4 m5
            have hown := (HJ.out.swap).o1
            obtain ⟨Mb, hMb⟩ : ∃ M, M = (whL N (fromB x1) hs k).length := ⟨_, rfl⟩
            obtain ⟨xsb, hxsb⟩ : ∃ xs, xs = numsV (whL N (fromB x1) hs k) := ⟨_, rfl⟩
            have hown2 : w6.ownsRow w2.heap.size 3 1 u10 Mb xsb := by rw [hMb, hxsb]; exact hown
            have HOWN := Lib.hid hown2
            have hML : Mb ≤ k := by rw [hMb]; exact whL_len _ _ _ _
            have hbs : w2.heap.size ≤ w6.heap.size := (HJ.out.swap).bel.size
            have HMT := Lib.hid hMb
            have HXT := Lib.hid hxsb
            clear hown hown2 hMb hxsb
            go_wp2_with (at_builtin; (refine wpList_append_lies _ rfl _ _ 40 rfl w2.heap.size 3 i0 (.int .i64 0) 1 8 Try.underlying40 HI0.out HZ0.out HZ1.out HZ2.out rfl (by decide) _ Mb xsb rfl (HOWN.out.alloc _) ⟨_, 0, none⟩ 1 1 [.int .i64 (k : Int)] rfl rfl ?d1b ?d2b (by omega) (by unfold maxLen; omega) (by omega) ?d5b _ rfl ?_))
            case d1b => exact World.news_of_block (heap_alloc_new w6 (.cells #[.int .i64 (k : Int)] 3))
            case d2b => intro u hu; simp at hu; subst hu; rfl
            case d5b => simp; omega
            intro g cap w7 hown hgrow hat hglt
            rw [HMT.out, HXT.out] at hown
            have hal : Below w6.heap.size w6 (w6.alloc (.cells #[.int .i64 (k : Int)] 3)) := (Below.refl _ _).alloc (Nat.le_refl _) _
            have hpush := ((HJ.out.swap).keep hal).push hown hgrow (by first | exact hat | exact hat.imp id (fun e => by rw [e]; simp))
            have HJY := Lib.hid hpush.swap
            rw [← HMT.out] at HJY
            clear hown hgrow hat hal hpush m0 m1 m2
            go_wp2_with fail
            go_roundw
            case rel => exact ⟨k + 1, by omega, by go_num, EI.of HJY.out (wh_no (by rw [← HW1.out]; simp [E1.out])) (wh_yes (by rw [← HW2.out]; simp))⟩
            case measure => simp [intOf]; omega
          · have n2 : (x1 == a) = false := by simpa using e2
            have E2 := Lib.hid e2
            clear e2
            go_wp2_with fail
            with_reducible refine (HRC.out _).mono ?_
            rintro e w4 ⟨rfl, hB⟩
            obtain ⟨m0, m1, m2, m3, m4, m5⟩ := HCB.out.keep hB
            dsimp only at m0 m1 m2 m3 m4 m5
            have hJ := (HII.out.j).keep (below_two HBA.out hB)
            have HJ := Lib.hid hJ
            obtain ⟨k0, k1, k2, k3, k4⟩ := HPBW.out.keep (below_two HBA.out hB)
            have HPB4 := Lib.hid (HPBW.out.keep (below_two HBA.out hB))
            have HB4 := Lib.hid hB
            clear hJ hB z0 z1 z2 z3 z4 cc0 cc1 cc2 cc3 cc4 cc5
            go_wp2_with fail
            with_reducible refine (HRC.out _).mono ?_
            rintro e w6 ⟨rfl, hB⟩
            have hJ := (HJ.out).keep hB
            replace m0 := kept m0 hB
            replace m1 := kept m1 hB
            replace m2 := kept m2 hB
            clear HJ
            have HJ := Lib.hid hJ
            clear hB hJ k0 k1 k2 k3 k4 m3 m4 m5
            go_wp2_with fail
            go_roundw
            case rel => exact ⟨k + 1, by omega, by go_num, EI.of HJ.out (wh_no (by rw [← HW1.out]; simp [E1.out])) (wh_no (by rw [← HW2.out]; simp [E2.out]))⟩
            case measure => simp [intOf]; omega
    · obtain rfl : m = k := by omega
      obtain ⟨F1, g1, rfl⟩ := own_form hI.o1
      obtain ⟨F2, g2, rfl⟩ := own_form hI.o2
      have hm1 := nums_own hI.o1
      have hm2 := nums_own hI.o2
      have hs1 : ∀ W, Below wr.heap.size wr W → Calls Try.prog 21 #[.slice E1 (whL N (toB a) hs m).length e1, .slice F1 (whL N (toB a) hs m).length g1] W fun e w' => e = .returned (.bool true) ∧ Below W.heap.size W w' := fun W hB => by
        have h := sameN_any E1 F1 e1 g1 (whL N (toB a) hs m).length (whL N (toB a) hs m).length _ _ W (Arr.keep (Arr.keep HN1.out hI.bel) hB) (Arr.keep hm1 hB) (by have := whL_len N (toB a) hs m; omega) (by have := whL_len N (toB a) hs m; omega)
        rw [decide_eq_true rfl, Bool.true_and, eqU_yes (fun _ _ => rfl)] at h
        exact h
      have hs2 : ∀ W, Below wr.heap.size wr W → Calls Try.prog 21 #[.slice E2 (whL N (fromB a) hs m).length e2, .slice F2 (whL N (fromB a) hs m).length g2] W fun e w' => e = .returned (.bool true) ∧ Below W.heap.size W w' := fun W hB => by
        have h := sameN_any E2 F2 e2 g2 (whL N (fromB a) hs m).length (whL N (fromB a) hs m).length _ _ W (Arr.keep (Arr.keep HN2.out hI.bel) hB) (Arr.keep hm2 hB) (by have := whL_len N (fromB a) hs m; omega) (by have := whL_len N (fromB a) hs m; omega)
        rw [decide_eq_true rfl, Bool.true_and, eqU_yes (fun _ _ => rfl)] at h
        exact h
      have HS1 := Lib.hid hs1
      have HS2 := Lib.hid hs2
      have HXA := Lib.hid (fun W hB => HEX.out W (HP.out.keep (below_two HBW.out hB)))
      have HXB := Lib.hid (fun W hB => HREX.out W (HP.out.keep (below_two HBW.out hB)))
      obtain ⟨u1, hu1⟩ : ∃ u, u = (whL N (toB a) hs m).length := ⟨_, rfl⟩
      obtain ⟨u2, hu2⟩ : ∃ u, u = (whL N (fromB a) hs m).length := ⟨_, rfl⟩
      have HUU := Lib.hid hu1
      have HUU2 := Lib.hid hu2
      rw [← hu1] at HS1
      rw [← hu2] at HS2
      have hxx : (xq == xq) = true := by simp
      have HBR := Lib.hid (Below.refl wr.heap.size wr)
      clear hI hm1 hm2 hs1 hs2 hk hlt hbr
      rw [← HUU.out, ← HUU2.out]
      clear hu1 hu2
      go_wp2_with fail
      go_region_held3 (fun w' => w'.cell? ⟨w.heap.size, 0, none⟩ = some (.int .u16 fr) ∧ w'.cell? ⟨w.heap.size, 1, none⟩ = some (.slice A1 cs.length c1) ∧ w'.cell? ⟨w.heap.size, 2, none⟩ = some (.slice A2 N c2) ∧ w'.cell? ⟨w.heap.size, 3, none⟩ = some (.slice A3 m c3) ∧ w'.cell? ⟨w.heap.size, 4, none⟩ = some (.slice A4 rs.length c4)) (go_keep)
        (first
          | (go_at_call 11
             (with_reducible refine (awake_any _).mono ?_)
             rintro e wx ⟨rfl, hB⟩
             have hB2 : Below wr.heap.size wr wx := below_two (by repeat (first | exact HBR.out | refine Below.drew ?_)) hB
             clear HBR
             have k0 := kept k0 hB2
             have k1 := kept k1 hB2
             have k2 := kept k2 hB2
             have k3 := kept k3 hB2
             have k4 := kept k4 hB2
             have HBR := Lib.hid hB2
             clear hB hB2)
          | ((first
               | (go_at_call 21; first | (with_reducible refine (HS1.out _ (by repeat (first | exact HBR.out | refine Below.drew ?_))).mono ?_) | (with_reducible refine (HS2.out _ (by repeat (first | exact HBR.out | refine Below.drew ?_))).mono ?_))
               | (go_at_call 22; (with_reducible refine (HXA.out _ (by repeat (first | exact HBR.out | refine Below.drew ?_))).mono ?_))
               | (go_at_call 23; (with_reducible refine (HXB.out _ (by repeat (first | exact HBR.out | refine Below.drew ?_))).mono ?_)))
             rintro e wx ⟨rfl, hB⟩
             replace k0 := kept k0 hB
             replace k1 := kept k1 hB
             replace k2 := kept k2 hB
             replace k3 := kept k3 hB
             replace k4 := kept k4 hB
             have hB2 := below_two HBR.out hB
             clear HBR
             have HBR := Lib.hid hB2
             clear hB hB2))
      all_goals
        go_wp2_with fail
        go_ret
        exact ⟨rfl, below_two HBW.out HBR.out⟩
end Go.Proofs.Ytjiikhfeacgjjaa
