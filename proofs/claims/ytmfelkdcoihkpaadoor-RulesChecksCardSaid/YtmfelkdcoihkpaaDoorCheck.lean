/-
  Check tells the first rule that is broken.
-/
import Derived.Test.YtmfelkdcoihkpaaDoorRulesB
import Derived.Test.YtmfelkdcoihkpaaDoorRulesC
namespace Go.Proofs.YtmfelkdcoihkpaaDoor
open Go.RowKit

def gp (b : Nat) : Value := .pointer (some ⟨b, 0, none⟩)
/-- The rules' closures. -/
def clo (b bc bp : Nat) : Nat → Value
  | 0 => .func (.func 32) #[] #[gp b]
  | 1 => .func (.func 34) #[] #[gp bc]
  | 2 => .func (.func 36) #[] #[gp bp]
  | 3 => .func (.func 37) #[] #[gp bc, gp b]
  | 4 => .func (.func 41) #[] #[gp b]
  | 5 => .func (.func 45) #[] #[gp b]
  | 6 => .func (.func 48) #[] #[gp b]
  | 7 => .func (.func 52) #[] #[gp b, gp bp]
  | _ => .func (.func 55) #[] #[gp bp, gp b]
/-- What inOrder leaves. -/
structure Ord (W : World) (P : PlanA) (L : PlanL) (g b bc bp : Nat) : Prop where
  pb : PB W b P L
  cb : W.cell? ⟨bc, 0, none⟩ = some (.int .i64 P.2.1.length)
  cp : W.cell? ⟨bp, 0, none⟩ = some (.int .i64 P.2.2.1.length)
  fs : ∀ i, i < 9 → W.cell? ⟨g, i, none⟩ = some (clo b bc bp i)
theorem Ord.keep {W W' : World} {P : PlanA} {L : PlanL} {g b bc bp : Nat} (h : Ord W P L g b bc bp) (hB : Below W.heap.size W W') : Ord W' P L g b bc bp :=
  ⟨h.pb.keep hB, kept h.cb hB, kept h.cp hB, fun i hi => kept (h.fs i hi) hB⟩
def InPost (P : PlanA) (L : PlanL) (w : World) (e : Ending) (w' : World) : Prop :=
  ∃ g b bc bp, e = .returned (.slice (some ⟨g, 0, none⟩) 9 9) ∧ Ord w' P L g b bc bp ∧ Below w.heap.size w w'

theorem kalloc {W : World} {b o : Nat} {v : Value} (h : W.cell? ⟨b, o, none⟩ = some v) (x : Obj) : (W.alloc x).cell? ⟨b, o, none⟩ = some v := kept h ((Below.refl _ _).alloc (Nat.le_refl _) _)
theorem kdrew {W : World} {b o : Nat} {v : Value} (h : W.cell? ⟨b, o, none⟩ = some v) : W.drew.cell? ⟨b, o, none⟩ = some v := kept h (Below.refl _ _).drew
set_option maxHeartbeats 8000000 in
set_option maxRecDepth 100000 in
theorem inOrder_any (P : PlanA) (L : PlanL) (w : World) : Calls Tryd.prog 22 #[planV P L] w fun e w' => InPost P L w e w' := by
  obtain ⟨fr, cs, ps, hs, rs⟩ := P
  obtain ⟨A1, c1, A2, c2, A3, c3, A4, c4⟩ := L
  simp only [planV]
  obtain ⟨n1, hn1⟩ : ∃ n, n = cs.length := ⟨_, rfl⟩
  obtain ⟨n2, hn2⟩ : ∃ n, n = ps.length := ⟨_, rfl⟩
  rw [← hn1, ← hn2]
  have H1 := Lib.hid hn1
  have H2 := Lib.hid hn2
  clear hn1 hn2
  go_enter Tryd.func22, Tryd.ntmps22
  go_wp2_with fail
  go_region
  all_goals go_wp2_with fail
  all_goals go_ret
  · obtain rfl := H1.out
    obtain rfl := H2.out
    refine ⟨w.heap.size + 1 + 1 + 1, w.heap.size, w.heap.size + 1, w.heap.size + 1 + 1, rfl, ⟨(((((PB.new w fr cs ps hs rs A1 c1 A2 c2 A3 c3 A4 c4).alloc _).alloc _).alloc _).keep (Below.refl _ _).drew), kdrew (kalloc (kalloc (by simp) _) _), kdrew (kalloc (by rw [World.cell?_alloc_at _ _ _ _ (by simp)]; rfl) _), fun i hi => ?_⟩, ?_⟩
    · match i, hi with
      | 0, _ => exact kdrew (by rw [World.cell?_alloc_at _ _ _ _ (by simp)]; rfl)
      | 1, _ => exact kdrew (by rw [World.cell?_alloc_at _ _ _ _ (by simp)]; rfl)
      | 2, _ => exact kdrew (by rw [World.cell?_alloc_at _ _ _ _ (by simp)]; rfl)
      | 3, _ => exact kdrew (by rw [World.cell?_alloc_at _ _ _ _ (by simp)]; rfl)
      | 4, _ => exact kdrew (by rw [World.cell?_alloc_at _ _ _ _ (by simp)]; rfl)
      | 5, _ => exact kdrew (by rw [World.cell?_alloc_at _ _ _ _ (by simp)]; rfl)
      | 6, _ => exact kdrew (by rw [World.cell?_alloc_at _ _ _ _ (by simp)]; rfl)
      | 7, _ => exact kdrew (by rw [World.cell?_alloc_at _ _ _ _ (by simp)]; rfl)
      | 8, _ => exact kdrew (by rw [World.cell?_alloc_at _ _ _ _ (by simp)]; rfl)
    · exact (((((Below.refl _ _).alloc (Nat.le_refl _) _).alloc (by simp) _).alloc (by simp; omega) _).alloc (by simp; omega) _).drew
  · obtain rfl := H1.out
    obtain rfl := H2.out
    refine ⟨w.heap.size + 1 + 1 + 1, w.heap.size, w.heap.size + 1 + 1, w.heap.size + 1, rfl, ⟨(((((PB.new w fr cs ps hs rs A1 c1 A2 c2 A3 c3 A4 c4).alloc _).alloc _).alloc _).keep (Below.refl _ _).drew), kdrew (kalloc (by rw [World.cell?_alloc_at _ _ _ _ (by simp)]; rfl) _), kdrew (kalloc (kalloc (by simp) _) _), fun i hi => ?_⟩, ?_⟩
    · match i, hi with
      | 0, _ => exact kdrew (by rw [World.cell?_alloc_at _ _ _ _ (by simp)]; rfl)
      | 1, _ => exact kdrew (by rw [World.cell?_alloc_at _ _ _ _ (by simp)]; rfl)
      | 2, _ => exact kdrew (by rw [World.cell?_alloc_at _ _ _ _ (by simp)]; rfl)
      | 3, _ => exact kdrew (by rw [World.cell?_alloc_at _ _ _ _ (by simp)]; rfl)
      | 4, _ => exact kdrew (by rw [World.cell?_alloc_at _ _ _ _ (by simp)]; rfl)
      | 5, _ => exact kdrew (by rw [World.cell?_alloc_at _ _ _ _ (by simp)]; rfl)
      | 6, _ => exact kdrew (by rw [World.cell?_alloc_at _ _ _ _ (by simp)]; rfl)
      | 7, _ => exact kdrew (by rw [World.cell?_alloc_at _ _ _ _ (by simp)]; rfl)
      | 8, _ => exact kdrew (by rw [World.cell?_alloc_at _ _ _ _ (by simp)]; rfl)
    · exact (((((Below.refl _ _).alloc (Nat.le_refl _) _).alloc (by simp) _).alloc (by simp; omega) _).alloc (by simp; omega) _).drew

theorem mem_getD {α : Type} {l : List α} {x : α} (d : α) (h : x ∈ l) : ∃ j, j < l.length ∧ l.getD j d = x := by
  obtain ⟨j, h1, h2⟩ := mem_at d h
  exact ⟨j, h1, h2.symm⟩
theorem holds_8 {P : PlanA} {k : Nat} (h : Holds_ P k) (hk : 1 < k) : P.2.1.length ≤ 8 := by
  have := h 1 hk
  simp only [ruleN, coresR] at this
  split at this
  · omega
  · simp at this
theorem holds_64 {P : PlanA} {k : Nat} (h : Holds_ P k) (hk : 2 < k) : P.2.2.1.length ≤ 64 := by
  have := h 2 hk
  simp only [ruleN, partsR] at this
  split at this
  · omega
  · simp at this
theorem holds_256 {P : PlanA} {k : Nat} (h : Holds_ P k) (hk : 3 < k) : ∀ ws ∈ P.2.1, ws.length ≤ 256 := by
  intro ws hws
  obtain ⟨c, hc, rfl⟩ := mem_getD [] hws
  have h3 := h 3 hk
  have := firstP_zero (show (firstP (manyE P) (fun c => (c : Int)) (List.range P.2.1.length)).1 = 0 from h3) c (List.mem_range.2 hc)
  unfold manyE at this
  split at this
  · assumption
  · simp at this
theorem holds_part {P : PlanA} {k : Nat} (h : Holds_ P k) (hk : 4 < k) : ∀ ws ∈ P.2.1, ∀ x ∈ ws, x.2.2.1 < P.2.2.1.length := by
  intro ws hws x hx
  obtain ⟨c, hc, rfl⟩ := mem_getD [] hws
  obtain ⟨i, hi, rfl⟩ := mem_getD dW hx
  have h4 := h 4 hk
  have := firstP_zero (show (firstP (placedE P) placeN (places P.2.1)).1 = 0 from h4) (c, i) (mem_places.2 ⟨hc, hi⟩)
  unfold placedE at this
  split at this
  · simp at this
  · split at this
    · assumption
    · simp at this

theorem enters32 : Enters 32 := enters_of Tryd.func32 (by kernel_rfl) rfl
theorem enters34 : Enters 34 := enters_of Tryd.func34 (by kernel_rfl) rfl
theorem enters36 : Enters 36 := enters_of Tryd.func36 (by kernel_rfl) rfl
theorem enters37 : Enters 37 := enters_of Tryd.func37 (by kernel_rfl) rfl
theorem enters41 : Enters 41 := enters_of Tryd.func41 (by kernel_rfl) rfl
theorem enters45 : Enters 45 := enters_of Tryd.func45 (by kernel_rfl) rfl
theorem enters48 : Enters 48 := enters_of Tryd.func48 (by kernel_rfl) rfl
theorem enters52 : Enters 52 := enters_of Tryd.func52 (by kernel_rfl) rfl
theorem enters55 : Enters 55 := enters_of Tryd.func55 (by kernel_rfl) rfl
theorem clo_rule (P : PlanA) (L : PlanL) (g b bc bp k : Nat) (W : World) (hO : POk P L) (hP : PlanAt W P L) (hW : Ord W P L g b bc bp) (hk : k < 9) (h : Holds_ P k) :
    ∃ K cap, clo b bc bp k = .func (.func K) #[] cap ∧ Enters K ∧ Rule K cap (ruleN P k) W := by
  match k, hk, h with
  | 0, _, _ => exact ⟨_, _, rfl, enters32, rule0 b P L W hW.pb hO⟩
  | 1, _, _ => exact ⟨_, _, rfl, enters34, rule1 bc _ W hW.cb⟩
  | 2, _, _ => exact ⟨_, _, rfl, enters36, rule2 bp _ W hW.cp⟩
  | 3, _, _ => exact ⟨_, _, rfl, enters37, rule3 b bc P L W hW.pb hW.cb hP hO⟩
  | 4, _, h => exact ⟨_, _, rfl, enters41, rule4 b P L W hW.pb hP hO (holds_8 h (by omega)) (holds_256 h (by omega)) (holds_64 h (by omega))⟩
  | 5, _, h => exact ⟨_, _, rfl, enters45, rule5 b P L W hW.pb hP hO (holds_8 h (by omega)) (holds_256 h (by omega))⟩
  | 6, _, h => exact ⟨_, _, rfl, enters48, rule6 b P L W hW.pb hP hO (holds_8 h (by omega)) (holds_256 h (by omega)) (holds_64 h (by omega)) (holds_part h (by omega))⟩
  | 7, _, h => exact ⟨_, _, rfl, enters52, rule7 b bp P L W hW.pb hW.cp hP hO (holds_64 h (by omega))⟩
  | 8, _, _ => exact ⟨_, _, rfl, enters55, rule8 b bp P L W hW.pb hW.cp hP hO⟩

/-- What Check answers: nil, or a failure of memory of its own. -/
def TellsC (base : Nat) (r : Int × Int) (e : Ending) (w' : World) : Prop :=
  (r.1 = 0 ∧ e = .returned .nilIface) ∨
  (r.1 ≠ 0 ∧ ∃ b, base ≤ b ∧ e = .returned (.iface 57 (.pointer (some ⟨b, 0, none⟩))) ∧ w'.cell? ⟨b, 0, none⟩ = some (.int .i64 r.2) ∧ w'.cell? ⟨b, 1, none⟩ = some (.int .i64 r.1))
def CkRel (P : PlanA) (L : PlanL) (w : World) (g b bc bp : Nat) (i : Value) (wr : World) : Prop :=
  ∃ k : Nat, k ≤ 9 ∧ i = .int .i64 k ∧ Holds_ P k ∧ Ord wr P L g b bc bp ∧ Below w.heap.size w wr

set_option maxHeartbeats 8000000 in
set_option maxRecDepth 100000 in
theorem check_any (P : PlanA) (L : PlanL) (w : World) (hP : PlanAt w P L) (hO : POk P L) :
    Calls Tryd.prog 12 #[planV P L] w fun e w' => TellsC w.heap.size (checkS P) e w' ∧ Below w.heap.size w w' := by
  have HI := Lib.hid (fun W => inOrder_any P L W)
  have HP := Lib.hid hP
  have HO := Lib.hid hO
  obtain ⟨R, hR⟩ : ∃ R, R = checkS P := ⟨_, rfl⟩
  rw [← hR]
  have HR := Lib.hid hR
  have hpv : planV P L = .agg #[.int .u16 P.1, .slice L.a1 P.2.1.length L.c1, .slice L.a2 P.2.2.1.length L.c2, .slice L.a3 P.2.2.2.1.length L.c3, .slice L.a4 P.2.2.2.2.length L.c4] := rfl
  rw [hpv] at HI ⊢
  have hB0 : Below w.heap.size w (w.alloc (.cells #[.int .u16 P.1, .slice L.a1 P.2.1.length L.c1, .slice L.a2 P.2.2.1.length L.c2, .slice L.a3 P.2.2.2.1.length L.c3, .slice L.a4 P.2.2.2.2.length L.c4] 28)) := (Below.refl _ _).alloc (Nat.le_refl _) _
  have HB0 := Lib.hid hB0
  clear hP hO hR hpv hB0
  go_enter Tryd.func12, Tryd.ntmps12
  go_wp2_with fail
  refine (HI.out _).mono ?_
  rintro e w1 ⟨g, b, bc, bp, rfl, hW, hB⟩
  have HW := Lib.hid hW
  have HB := Lib.hid (below_two HB0.out hB)
  clear hW hB
  go_wp2_with fail
  go_loopw [10] (fun i wr => CkRel P L w g b bc bp i wr) (fun i _ => 9 - (intOf i).toNat)
  case atStart => exact ⟨0, Nat.zero_le _, rfl, fun j hj => by omega, HW.out, HB.out⟩
  case round =>
    obtain ⟨k, hk, rfl, hH, hW, hB⟩ := hrel
    have HH := Lib.hid hH
    have HW2 := Lib.hid hW
    have HB2 := Lib.hid hB
    by_cases hlt : k < 9
    · obtain ⟨K, cap, hcl, hE, hRu⟩ := clo_rule P L g b bc bp k wr HO.out (HP.out.keep hB) hW hlt hH
      have cc := hW.fs k hlt
      rw [hcl] at cc
      obtain ⟨r, hr⟩ : ∃ r, r = ruleN P k := ⟨_, rfl⟩
      rw [← hr] at hRu
      unfold Rule at hRu
      have HRu := Lib.hid hRu
      have HRR := Lib.hid hr
      have eg := hE
      unfold Enters at eg
      have hlt' : (k : Int) < 9 := by omega
      clear hH hW hB hcl hE hRu hr
      go_wp2_with fail
      refine HRu.out.mono ?_
      rintro e w2 ⟨hT, hB⟩
      rcases hT with ⟨h0, rfl⟩ | ⟨h0, q, hq, rfl, c0, c1⟩
      · have HZ := Lib.hid h0
        have HB3 := Lib.hid hB
        clear h0 hB
        go_wp2_with fail
        refine (is_ok _).mono ?_
        rintro e w3 ⟨rfl, hB⟩
        have HB4 := Lib.hid hB
        clear hB
        go_wp2_with fail
        go_roundw
        case rel => exact ⟨k + 1, by omega, by go_num, fun j hj => (by
            rcases Nat.lt_or_ge j k with h | h
            · exact HH.out j h
            · obtain rfl : j = k := by omega
              rw [← HRR.out]; exact HZ.out), (HW2.out.keep HB3.out).keep HB4.out, below_two HB2.out (below_two HB3.out HB4.out)⟩
        case measure => simp [intOf]; omega
      · have HZ := Lib.hid h0
        have HB3 := Lib.hid hB
        have hq2 : w.heap.size ≤ q := Nat.le_trans HB2.out.size hq
        have C0 := Lib.hid c0
        have C1 := Lib.hid c1
        clear h0 hB c0 c1 hq
        go_wp2_with fail
        refine (is_fail q 0 _ _ C1.out HZ.out).mono ?_
        rintro e w3 ⟨rfl, hB⟩
        have HB4 := Lib.hid hB
        clear hB
        go_wp2_with fail
        go_ret
        refine ⟨.inr ?_, below_two HB2.out (below_two HB3.out HB4.out)⟩
        have hch := checkS_at hlt HH.out (by rw [← HRR.out]; exact HZ.out)
        rw [← HRR.out, ← HR.out] at hch
        rw [hch]
        exact ⟨HZ.out, q, hq2, rfl, kept C0.out HB4.out, kept C1.out HB4.out⟩
    · obtain rfl : k = 9 := by omega
      clear hH hW hB
      go_wp2_with fail
      go_ret
      refine ⟨.inl ⟨?_, rfl⟩, HB2.out⟩
      rw [HR.out, checkS_ok HH.out]
end Go.Proofs.YtmfelkdcoihkpaaDoor
