/-
  byPart sorts the windows by partitions.
-/
import Derived.Test.YtmfelkdcoihkpaaDoorSrv
import Derived.Test.YtmfelkdcoihkpaaDoorPlaced
import Derived.Test.YtmfelkdcoihkpaaDoorBeside
import Derived.Deep.RegionLaw
namespace Go.Proofs.YtmfelkdcoihkpaaDoor
open Go.RowKit

theorem info43 : (Tryd.prog.info? 43).map (fun i => (i.zero, i.size, i.bytes)) = some (some (.slice none 0 0), 1, 24) := by kernel_rfl
theorem info39 : (Tryd.prog.info? 39).map (fun i => (i.zero, i.size, i.bytes)) = some (some (.agg #[.int .u16 0, .int .u16 0, .int .u8 0, .int .u8 0]), 4, 6) := by kernel_rfl

theorem flatten_le {α : Type} (n : Nat) (l : List (List α)) (h : ∀ x ∈ l, x.length ≤ n) : l.flatten.length ≤ n * l.length := by
  induction l with
  | nil => simp
  | cons x r ih =>
    rw [List.flatten_cons, List.length_append, List.length_cons, Nat.mul_add]
    have h1 := h x List.mem_cons_self
    have h2 := ih fun y hy => h y (List.mem_cons_of_mem _ hy)
    omega
def POut (w : World) (G n : Nat) (cs : List (List WinA)) (i : Value) (wr : World) : Prop :=
  ∃ c : Nat, c ≤ cs.length ∧ i = .int .i64 c ∧ (∃ cur, Srv wr G n (cs.take c).flatten cur) ∧ Below w.heap.size w wr
def PIn (w : World) (G n : Nat) (L ws : List WinA) (i : Value) (wr : World) : Prop :=
  ∃ k : Nat, k ≤ ws.length ∧ i = .int .i64 k ∧ (∃ cur, Srv wr G n (L ++ ws.take k) cur) ∧ Below w.heap.size w wr
def ByPost (P : PlanA) (w : World) (e : Ending) (w' : World) : Prop :=
  ∃ G, w.heap.size ≤ G ∧ e = .returned (.slice (some ⟨G, 0, none⟩) P.2.2.1.length P.2.2.1.length) ∧ SrvAt w' G P.2.2.1.length P.2.1 ∧ Below w.heap.size w w'

set_option maxHeartbeats 8000000 in
set_option maxRecDepth 100000 in
theorem byPart_any (P : PlanA) (L : PlanL) (w : World) (hP : PlanAt w P L) (hW : WfPlan P) (h8 : P.2.1.length ≤ 8) (h256 : ∀ ws ∈ P.2.1, ws.length ≤ 256) (h64 : P.2.2.1.length ≤ 64) (hpt : ∀ ws ∈ P.2.1, ∀ x ∈ ws, x.2.2.1 < P.2.2.1.length) :
    Calls Tryd.prog 49 #[planV P L] w fun e w' => ByPost P w e w' := by
  obtain ⟨i3, hi3, hz30, hz31, hz32⟩ := info_parts info43
  obtain ⟨i0, hi, hz0, hz1, hz2⟩ := info_parts info39
  obtain ⟨fr, cs, ps, hs, rs⟩ := P
  obtain ⟨A1, c1, A2, c2, A3, c3, A4, c4⟩ := L
  obtain ⟨g1, -, -, -⟩ := hP
  obtain ⟨hfr, hwf, -, -, -⟩ := hW
  simp only [planV] at *
  obtain ⟨n, hn⟩ : ∃ n, n = ps.length := ⟨_, rfl⟩
  unfold ByPost
  dsimp only
  rw [← hn] at h64 hpt ⊢
  have hb0 : Below w.heap.size w ((w.alloc (.cells #[.int .u16 fr, .slice A1 cs.length c1, .slice A2 n c2, .slice A3 hs.length c3, .slice A4 rs.length c4] 28)).alloc (.cells (madeCells #[.slice none 0 0] n) 43)) := ((Below.refl _ _).alloc (Nat.le_refl _) _).alloc (by simp) _
  have hsv := Srv.start (w.alloc (.cells #[.int .u16 fr, .slice A1 cs.length c1, .slice A2 n c2, .slice A3 hs.length c3, .slice A4 rs.length c4] 28)) n
  rw [show (w.alloc (.cells #[.int .u16 fr, .slice A1 cs.length c1, .slice A2 n c2, .slice A3 hs.length c3, .slice A4 rs.length c4] 28)).heap.size = w.heap.size + 1 by simp] at hsv
  have hmk : ∀ W : World, (Instr.makeSlice 23 (.int .i64 (n : Int)) (.int .i64 (n : Int))).run Tryd.prog W = .ok (.slice (some ⟨W.heap.size, 0, none⟩) n n) (W.alloc (.cells (madeCells #[.slice none 0 0] n) 43)) := fun W => by
    have h := run_make (P := Tryd.prog) W 23 43 i3 (.slice none 0 0) Tryd.underlying23 hi3 hz30 .i64 .i64 n n (by omega) (Int.le_refl _) (by rw [hz32]; omega) (by omega)
    rw [hz31] at h
    simpa [Value.cells] using h
  have HSV := Lib.hid hsv
  have HB0 := Lib.hid hb0
  have G1 := Lib.hid g1
  have HWF := Lib.hid hwf
  have H256 := Lib.hid h256
  have HPT := Lib.hid hpt
  have HI3 := Lib.hid hi3
  have HZ30 := Lib.hid hz30
  have HZ31 := Lib.hid hz31
  have HZ32 := Lib.hid hz32
  have HI := Lib.hid hi
  have HZ0 := Lib.hid hz0
  have HZ1 := Lib.hid hz1
  have HZ2 := Lib.hid hz2
  clear hsv hb0 g1 hwf h256 hpt hn hi3 hz30 hz31 hz32 hi hz0 hz1 hz2
  go_enter Tryd.func49, Tryd.ntmps49
  go_wp2_with fail
  clear hmk
  go_loopw [15] (fun i wr => POut w (w.heap.size + 1) n cs i wr) (fun i _ => cs.length - (intOf i).toNat)
  case atStart => exact ⟨0, Nat.zero_le _, rfl, ⟨_, HSV.out⟩, HB0.out⟩
  case round =>
    obtain ⟨c, hc, rfl, ⟨cur, hS⟩, hB⟩ := hrel
    by_cases hlt : c < cs.length
    · obtain ⟨Pf, q1, q2⟩ := G1.out
      obtain ⟨b1, o1, rfl⟩ := Arr.head q1 hlt
      have cc := kept (Arr.at (j := 0) q1 hlt rfl) hB
      obtain ⟨ws, hws⟩ : ∃ ws, ws = cs.getD c [] := ⟨_, rfl⟩
      obtain ⟨hh, -⟩ := q2 c hlt
      obtain ⟨⟨A5, c5⟩, hP5⟩ : ∃ p, p = Pf c := ⟨_, rfl⟩
      have hl := H256.out _ (getD_mem [] hlt)
      have hwf := HWF.out _ (getD_mem [] hlt)
      have hpt := HPT.out _ (getD_mem [] hlt)
      rw [← hws] at hl hh hwf hpt
      rw [← hP5] at hh cc
      simp only [slV, ← hws, Nat.mul_one, Nat.add_zero] at cc
      have hS' : Srv wr (w.heap.size + 1) n ((cs.take c).flatten ++ ws.take 0) cur := by simpa using hS
      obtain ⟨L0, hL0⟩ : ∃ L0, L0 = (cs.take c).flatten := ⟨_, rfl⟩
      rw [← hL0] at hS'
      have hstep : (cs.take (c + 1)).flatten = L0 ++ ws := by
        rw [List.take_succ_eq_append_getElem hlt, List.flatten_append, hL0, hws, List.getD_eq_getElem?_getD, List.getElem?_eq_getElem hlt]
        simp
      have hL0l : L0.length ≤ 2048 := by
        rw [hL0]
        refine Nat.le_trans (flatten_le 256 _ fun ws h => H256.out ws (List.mem_of_mem_take h)) ?_
        rw [List.length_take]
        omega
      obtain ⟨m, hm⟩ : ∃ m, m = ws.length := ⟨_, rfl⟩
      rw [← hm] at hl cc
      have HS := Lib.hid hS'
      have HB := Lib.hid hB
      have HH := Lib.hid hh
      have HWF1 := Lib.hid hwf
      have HPT1 := Lib.hid hpt
      have HST := Lib.hid hstep
      have HM := Lib.hid hm
      clear q1 q2 hh hws hP5 hB hS hS' hwf hpt hstep hL0 hm
      go_wp2_with fail
      go_loopw [21] (fun i wr => PIn w (w.heap.size + 1) n L0 ws i wr) (fun i _ => m - (intOf i).toNat)
      case atStart => exact ⟨0, Nat.zero_le _, rfl, ⟨_, HS.out⟩, HB.out⟩
      case round =>
        obtain ⟨k, hk, rfl, ⟨cur2, hS2⟩, hB2⟩ := hrel
        rw [← HM.out] at hk
        by_cases hlt2 : k < m
        · have hlw : k < ws.length := by rw [← HM.out]; exact hlt2
          obtain ⟨b2, o2, rfl⟩ := Arr.head HH.out hlw
          obtain ⟨⟨y0, y1, y2, y3⟩, hy⟩ : ∃ y, y = ws.getD k dW := ⟨_, rfl⟩
          have d0 := kept (Arr.at (j := 0) HH.out hlw rfl) hB2
          have d1 := kept (Arr.at (j := 1) HH.out hlw rfl) hB2
          have d2 := kept (Arr.at (j := 2) HH.out hlw rfl) hB2
          have d3 := kept (Arr.at (j := 3) HH.out hlw rfl) hB2
          simp only [← hy, Nat.add_zero] at d0 d1 d2 d3
          have wy := HWF1.out _ (getD_mem dW hlw)
          have py := HPT1.out _ (getD_mem dW hlw)
          rw [← hy] at wy py
          obtain ⟨-, -, ⟨wy0, wy1⟩, -⟩ := wy
          dsimp only at wy0 wy1 py
          obtain ⟨p, rfl⟩ := Int.eq_ofNat_of_zero_le wy0
          have hpn : p < n := by omega
          have hbx : Below wr.heap.size wr (wr.alloc (.cells #[.int .u16 y0, .int .u16 y1, .int .u8 (p : Int), .int .u8 y3] 39)) := (Below.refl _ _).alloc (Nat.le_refl _) _
          obtain ⟨W2, hW2⟩ : ∃ W2, W2 = wr.alloc (.cells #[.int .u16 y0, .int .u16 y1, .int .u8 (p : Int), .int .u8 y3] 39) := ⟨_, rfl⟩
          have hwb := WB.new wr y0 y1 p y3
          rw [← hW2] at hbx hwb
          have hS3 := hS2.keep hbx
          have hB3 := below_two hB2 hbx
          obtain ⟨v, hv, e4, f4⟩ := hS3.cell hpn
          obtain ⟨r0, r1, r2, r3⟩ := hwb
          dsimp only at r0 r1 r2 r3
          have hlen : (filt (L0 ++ ws.take k) p).length ≤ 4096 := by
            have h1 : (filt (L0 ++ ws.take k) p).length ≤ (L0 ++ ws.take k).length := List.length_filter_le _ _
            rw [List.length_append, List.length_take] at h1
            omega
          have hB2l : wr.heap.size < W2.heap.size := by rw [hW2]; simp
          have hGl : w.heap.size + 1 < W2.heap.size := hS3.lt
          obtain ⟨B2, hB2n⟩ : ∃ B2, B2 = wr.heap.size := ⟨_, rfl⟩
          rw [← hB2n] at r0 r1 r2 r3 hB2l
          have hB2G : w.heap.size + 1 < B2 := by rw [hB2n]; exact hS2.lt
          have HOWN : Hid (∀ W', Below W2.heap.size W2 W' → W'.ownsRow (w.heap.size + 1 + 1) 39 4 v (filt (L0 ++ ws.take k) p).length ((filt (L0 ++ ws.take k) p).flatMap winV)) := fun W' h => (hS3.keep h).own p v hv
          have hvG : v.ownBlock ≠ some (w.heap.size + 1) := fun e => by
            have := (World.ownsRow.lt (hS3.own p v hv) _ e).1
            omega
          have HVB : Hid (v.ownBlock ≠ some B2) := fun e => by
            have := (World.ownsRow.lt (hS2.own p v hv) _ e).2
            omega
          have HVG := Lib.hid hvG
          have HSTEP : Hid (∀ W' w1 g cap, Below W2.heap.size W2 W' → W'.grownBy w1 v.ownBlock → w1.ownsRow (w.heap.size + 1 + 1) 39 4 (.slice (some ⟨g, 0, none⟩) ((filt (L0 ++ ws.take k) p).length + 1) cap) ((filt (L0 ++ ws.take k) p).length + 1) ((filt (L0 ++ ws.take k) p).flatMap winV ++ winV (y0, y1, (p : Int), y3)) → (v.ownBlock = some g ∨ g = W'.heap.size) →
              (∃ cur, Srv (w1.setCell ⟨w.heap.size + 1, p, none⟩ (.slice (some ⟨g, 0, none⟩) ((filt (L0 ++ ws.take k) p).length + 1) cap)) (w.heap.size + 1) n (L0 ++ ws.take (k + 1)) cur) ∧ Below w.heap.size w (w1.setCell ⟨w.heap.size + 1, p, none⟩ (.slice (some ⟨g, 0, none⟩) ((filt (L0 ++ ws.take k) p).length + 1) cap))) := fun W' w1 g cap hB' hg ho hat => by
            have h1 := (hS3.keep hB').step (x := (y0, y1, (p : Int), y3)) rfl hv hg ho hat
            have hte : L0 ++ ws.take k ++ [(y0, y1, (p : Int), y3)] = L0 ++ ws.take (k + 1) := by
              rw [List.take_succ_eq_append_getElem hlw, hy, List.getD_eq_getElem?_getD, List.getElem?_eq_getElem hlw]
              simp
            rw [hte] at h1
            refine ⟨⟨_, h1⟩, ((below_two hB3 hB').grown hg ?_ ?_).setCell (by show w.heap.size ≤ w.heap.size + 1; omega) _⟩
            · exact Nat.le_trans hB3.size hB'.size
            · intro q hq
              have := (World.ownsRow.lt (hS3.own p v hv) q hq).1
              omega
          have HFAR : Hid (∀ W' w1, Below W2.heap.size W2 W' → W'.grownBy w1 v.ownBlock → w1.cell? ⟨w.heap.size + 1, p, none⟩ = some v ∧ w1.frozen? ⟨w.heap.size + 1, p, none⟩ = false ∧ w1.cell? ⟨B2, 2, none⟩ = some (.int .u8 (p : Int))) := fun W' w1 hB' hg => by
            have h1 := hB'.size
            refine ⟨?_, ?_, ?_⟩
            · rw [hg.cell_far ⟨_, _, _⟩ (by show w.heap.size + 1 < _; omega) (fun e => hvG e.symm), hB'.cell (p := ⟨_, _, _⟩) hGl]; exact e4
            · rw [hg.frozen_far ⟨_, _, _⟩ (by show w.heap.size + 1 < _; omega) (fun e => hvG e.symm), hB'.frozen (p := ⟨_, _, _⟩) hGl]; exact f4
            · rw [hg.cell_far ⟨_, _, _⟩ (by show B2 < _; omega) (fun e => HVB.out e.symm), hB'.cell (p := ⟨_, _, _⟩) hB2l]; exact r2
          have hby : Below W2.heap.size W2 (W2.alloc (.cells #[.int .u16 y0, .int .u16 y1, .int .u8 (p : Int), .int .u8 y3] 39)) := (Below.refl _ _).alloc (Nat.le_refl _) _
          have e5 := kept e4 hby
          have s0 := kept r0 hby
          have s1 := kept r1 hby
          have s2 := kept r2 hby
          have s3 := kept r3 hby
          clear hby
          obtain ⟨fl, hfl⟩ : ∃ fl, fl = filt (L0 ++ ws.take k) p := ⟨_, rfl⟩
          rw [← hfl] at HOWN HSTEP hlen
          have HI1 := HI.out
          have HZ01 := HZ0.out
          have HZ11 := HZ1.out
          have HZ21 := HZ2.out
          have HIH := Lib.hid HI1
          have HW2 := Lib.hid hW2
          have HBN := Lib.hid hB2n
          have hz9 : w.heap.size + 1 + 1 ≤ W2.heap.size := hGl
          clear hS2 hB2 hS3 hbx cc hlw hy hv hvG hfl hW2 hB3 hB2n HI1 HZ01 HZ11 HZ21 hGl
          go_wp2_with fail
          rw [← HW2.out, ← HBN.out]
          go_region_law ((
            refine step_append_lies _ rfl _ _ 43 rfl (w.heap.size + 1 + 1) 39 i0 (.agg #[.int .u16 0, .int .u16 0, .int .u8 0, .int .u8 0]) 4 6 Tryd.underlying43 HI.out HZ0.out HZ1.out HZ2.out rfl (by decide) v fl.length (fl.flatMap winV) rfl
              (HOWN.out _ (by repeat (first | exact Below.refl _ _ | refine Below.drew ?_ | refine Below.alloc ?_ (by simp) _))) ⟨_, 0, none⟩ 1 1 (winV (y0, y1, (p : Int), y3)) rfl rfl
              (by intro j u hj; match j, hj with | 0, hj => (simp [winV] at hj; subst hj; simp [Addr.add]) | 1, hj => (simp [winV] at hj; subst hj; simp [Addr.add]) | 2, hj => (simp [winV] at hj; subst hj; simp [Addr.add]) | 3, hj => (simp [winV] at hj; subst hj; simp [Addr.add]) | j + 4, hj => (simp [winV] at hj))
              (by intro u hu; simp [winV] at hu; rcases hu with rfl | rfl | rfl | rfl <;> rfl) (by omega) (by unfold maxLen; omega) (by omega) (by simp; omega) _ rfl ?_
            intro g cap w1 hown hgrow hat hglt
            have hst := HSTEP.out _ w1 g cap (by repeat (first | exact Below.refl _ _ | refine Below.drew ?_ | refine Below.alloc ?_ (by simp) _)) hgrow hown hat
            have HSTP := Lib.hid hst
            obtain ⟨t1, t2, t3⟩ := HFAR.out _ w1 (by repeat (first | exact Below.refl _ _ | refine Below.drew ?_ | refine Below.alloc ?_ (by simp) _)) hgrow
            clear hown hgrow hat hst))
          all_goals
            clear t1 t2 t3 r0 r1 r2 r3 s0 s1 s2 s3 e4 e5 f4 d0 d1 d2 d3
            go_wp2_with fail
            go_roundw
            case rel => exact ⟨k + 1, by rw [← HM.out]; omega, by go_num, HSTP.out.1, HSTP.out.2⟩
            case measure => simp [intOf]; omega
        · obtain rfl : k = m := by omega
          have hS5 : Srv wr (w.heap.size + 1) n (cs.take (c + 1)).flatten cur2 := by
            rw [HST.out]
            rw [HM.out, List.take_length] at hS2
            exact hS2
          have HS5 := Lib.hid hS5
          have HB5 := Lib.hid hB2
          clear hS2 hB2 hS5 cc
          go_wp2_with fail
          go_roundw
          case rel => exact ⟨c + 1, by omega, by go_num, ⟨_, HS5.out⟩, HB5.out⟩
          case measure => simp [intOf]; omega
    · obtain rfl : c = cs.length := by omega
      rw [List.take_length] at hS
      have HS5 := Lib.hid hS
      have HB5 := Lib.hid hB
      clear hS hB
      go_wp2_with fail
      go_ret
      exact ⟨w.heap.size + 1, by omega, rfl, Srv.at _ _ _ _ _ HS5.out, HB5.out⟩
end Go.Proofs.YtmfelkdcoihkpaaDoor
