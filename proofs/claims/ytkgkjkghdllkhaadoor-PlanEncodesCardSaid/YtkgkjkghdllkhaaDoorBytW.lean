/-
  The given package's Bytes, walked.
-/
import Derived.Test.YtkgkjkghdllkhaaDoorBytA
import Derived.Deep.RegionHeld3
namespace Go.Proofs.YtkgkjkghdllkhaaDoor
open Go.RowKit

theorem below_two' {w w1 w2 : World} (h1 : Below w.heap.size w w1) (h2 : Below w1.heap.size w1 w2) : Below w.heap.size w w2 := h1.trans (h2.mono h1.size)
theorem below_al (w : World) (o : Obj) : Below w.heap.size w (w.alloc o) := (Below.refl _ _).alloc (Nat.le_refl _) _
theorem keptd {w w' : World} {a : Addr} {v : Value} (h : w.cell? a = some v) (hb : Below w.drew.heap.size w.drew w') : w'.cell? a = some v := kept' (w := w.drew) h hb
theorem wrapI {x : Int} (h : 0 ≤ x ∧ x ≤ 65535) : IntKind.i64.wrap x = x := by
  unfold IntKind.wrap IntKind.bits IntKind.signed
  simp
  omega
theorem wrapB {n : Nat} (h : n ≤ 255) : IntKind.u8.wrap (n : Int) = (n : Int) := by
  unfold IntKind.wrap IntKind.bits IntKind.signed
  simp
  omega
theorem magic_str (l : List Int) : (⟨#[80, 85, 82, 49]⟩ : ByteArray) ++ bytesL l = bytesL (magicL ++ l) := by
  rw [← bytesL_append]; rfl
theorem sz_eq (l : List Int) : (bytesL l).size = l.length := by
  show (bytesL l).data.size = _
  simp [bytesL]
theorem sz_le {l : List Int} (h : l.length ≤ 1000000) : (bytesL l).size ≤ 1000000 := by rw [sz_eq]; exact h
theorem byte_nat {n : Nat} (h : n ≤ 255) : byte (n : Int) := ⟨by omega, by omega⟩
theorem wide_nat {n : Nat} (h : n ≤ 65535) : wide (n : Int) := ⟨by omega, by omega⟩
theorem head_eq (P : PlanA) : magicL ++ two P.1 ++ (cntL P).take 4 = encHead P := rfl
theorem pre_core (P : PlanA) (k : Nat) : (encHead P ++ (P.2.1.take k).flatMap encCore).length ≤ (enc P).length := by
  have := flat_le encCore P.2.1 k
  unfold enc
  simp only [List.length_append]
  omega
/-- Behind k counts. -/
def R1 (P : PlanA) (w0 : World) (s i : Value) (wr : World) : Prop := ∃ k : Nat, k ≤ 4 ∧ i = .int .i64 k ∧ s = sB (magicL ++ two P.1 ++ (cntL P).take k) ∧ (∀ j, j < k → cnt P j ≤ 255) ∧ Below w0.heap.size w0 wr
/-- Behind k cores. -/
def R2 (P : PlanA) (w0 : World) (s i : Value) (wr : World) : Prop := ∃ k : Nat, k ≤ P.2.1.length ∧ i = .int .i64 k ∧ s = sB (encHead P ++ (P.2.1.take k).flatMap encCore) ∧ (∀ j, j < k → (P.2.1.getD j []).length ≤ 65535) ∧ Below w0.heap.size w0 wr
def R2i (l : List Int) (ws : List WinA) (w0 : World) (s i : Value) (wr : World) : Prop := ∃ k : Nat, k ≤ ws.length ∧ i = .int .i64 k ∧ s = sB (l ++ (ws.take k).flatMap encWin) ∧ Below w0.heap.size w0 wr

def R4 (l : List Int) (hs : List ChanA) (w0 : World) (s i : Value) (wr : World) : Prop := ∃ k : Nat, k ≤ hs.length ∧ i = .int .i64 k ∧ s = sB (l ++ (hs.take k).flatMap encChan) ∧ Below w0.heap.size w0 wr
def R5 (l : List Int) (rs : List PairA) (w0 : World) (s i : Value) (wr : World) : Prop := ∃ k : Nat, k ≤ rs.length ∧ i = .int .i64 k ∧ s = sB (l ++ (rs.take k).flatMap encPair) ∧ Below w0.heap.size w0 wr
theorem pre_chan (P : PlanA) (k : Nat) : (encHead P ++ P.2.1.flatMap encCore ++ P.2.2.1.flatMap encPart ++ (P.2.2.2.1.take k).flatMap encChan).length ≤ (enc P).length := by
  have := flat_le encChan P.2.2.2.1 k
  unfold enc
  simp only [List.length_append]
  omega
theorem pre_pair (P : PlanA) (k : Nat) : (encHead P ++ P.2.1.flatMap encCore ++ P.2.2.1.flatMap encPart ++ P.2.2.2.1.flatMap encChan ++ (P.2.2.2.2.take k).flatMap encPair).length ≤ (enc P).length := by
  have := flat_le encPair P.2.2.2.2 k
  unfold enc
  simp only [List.length_append]
  omega
theorem CB6.new (w : World) (y0 y1 y2 y3 y4 y5 : Int) : let W := w.alloc (.cells #[.int .u8 y0, .int .u8 y1, .int .u8 y2, .int .u8 y3, .int .u8 y4, .int .u16 y5] 60)
    W.cell? ⟨w.heap.size, 0, none⟩ = some (.int .u8 y0) ∧ W.cell? ⟨w.heap.size, 1, none⟩ = some (.int .u8 y1) ∧ W.cell? ⟨w.heap.size, 2, none⟩ = some (.int .u8 y2) ∧ W.cell? ⟨w.heap.size, 3, none⟩ = some (.int .u8 y3) ∧ W.cell? ⟨w.heap.size, 4, none⟩ = some (.int .u8 y4) ∧ W.cell? ⟨w.heap.size, 5, none⟩ = some (.int .u16 y5) := by simp
/-- A partition in a block of its own. -/
structure QBB (W : World) (b : Nat) (S : Option Addr × Nat) (n : Nat) (ev : Int) (Q : Option Addr × Nat) (m : Nat) (a0 a1 a2 : Int) : Prop where
  f0 : W.cell? ⟨b, 0, none⟩ = some (.slice S.1 n S.2)
  f1 : W.cell? ⟨b, 1, none⟩ = some (.int .u8 ev)
  f2 : W.cell? ⟨b, 2, none⟩ = some (.slice Q.1 m Q.2)
  f3 : W.cell? ⟨b, 3, none⟩ = some (.int .u8 a0)
  f4 : W.cell? ⟨b, 4, none⟩ = some (.int .u8 a1)
  f5 : W.cell? ⟨b, 5, none⟩ = some (.int .u8 a2)
theorem QBB.new (w : World) (S : Option Addr × Nat) (n : Nat) (ev : Int) (Q : Option Addr × Nat) (m : Nat) (a0 a1 a2 : Int) : QBB (w.alloc (.cells #[.slice S.1 n S.2, .int .u8 ev, .slice Q.1 m Q.2, .int .u8 a0, .int .u8 a1, .int .u8 a2] 56)) w.heap.size S n ev Q m a0 a1 a2 := ⟨by simp, by simp, by simp, by simp, by simp, by simp⟩
theorem QBB.keep {W W' : World} {b : Nat} {S : Option Addr × Nat} {n : Nat} {ev : Int} {Q : Option Addr × Nat} {m : Nat} {a0 a1 a2 : Int} (h : QBB W b S n ev Q m a0 a1 a2) (hB : Below W.heap.size W W') : QBB W' b S n ev Q m a0 a1 a2 :=
  ⟨kept' h.f0 hB, kept' h.f1 hB, kept' h.f2 hB, kept' h.f3 hB, kept' h.f4 hB, kept' h.f5 hB⟩
def R3a (l : List Int) (ss : List SemA) (w0 : World) (s i : Value) (wr : World) : Prop := ∃ k : Nat, k ≤ ss.length ∧ i = .int .i64 k ∧ s = sB (l ++ (ss.take k).flatMap encSem) ∧ Below w0.heap.size w0 wr
def R3b (l : List Int) (pp : List Int) (w0 : World) (s i : Value) (wr : World) : Prop := ∃ k : Nat, k ≤ pp.length ∧ i = .int .i64 k ∧ s = sB (l ++ pp.take k) ∧ Below w0.heap.size w0 wr
/-- Behind k partitions. -/
def R3 (P : PlanA) (w0 : World) (s i : Value) (wr : World) : Prop := ∃ k : Nat, k ≤ P.2.2.1.length ∧ i = .int .i64 k ∧ s = sB (encHead P ++ P.2.1.flatMap encCore ++ (P.2.2.1.take k).flatMap encPart) ∧ (∀ j, j < k → (P.2.2.1.getD j dQ).1.length ≤ 255 ∧ (P.2.2.1.getD j dQ).2.2.1.length ≤ 255) ∧ Below w0.heap.size w0 wr
theorem pre_part (P : PlanA) (k : Nat) : (encHead P ++ P.2.1.flatMap encCore ++ (P.2.2.1.take k).flatMap encPart).length ≤ (enc P).length := by
  have := flat_le encPart P.2.2.1 k
  unfold enc
  simp only [List.length_append]
  omega

set_option maxHeartbeats 32000000 in
set_option maxRecDepth 100000 in
theorem bytes_any (P : PlanA) (L : PlanL) (w : World) (hP : PlanAt w P L) (hW : WfPlan P) (hsm : (enc P).length ≤ 1000000) (h1 : P.2.1.length ≤ 1000000) (h2 : P.2.2.1.length ≤ 1000000) (h3 : P.2.2.2.1.length ≤ 1000000) (h4 : P.2.2.2.2.length ≤ 1000000)
    (h5 : ∀ ws ∈ P.2.1, ws.length ≤ 1000000) (h6 : ∀ q ∈ P.2.2.1, q.1.length ≤ 1000000 ∧ q.2.2.1.length ≤ 1000000) :
    Calls Tryd.prog 13 #[planV P L] w fun e w' => BytesP P w e w' := by
  have HP := Lib.hid hP
  have HSM := Lib.hid hsm
  have HW := Lib.hid hW
  have H5 := Lib.hid h5
  have H6 := Lib.hid h6
  have hpv : planV P L = .agg #[.int .u16 P.1, .slice L.a1 P.2.1.length L.c1, .slice L.a2 P.2.2.1.length L.c2, .slice L.a3 P.2.2.2.1.length L.c3, .slice L.a4 P.2.2.2.2.length L.c4] := rfl
  rw [hpv]
  have hbb : BB P L w.heap.size ((w.alloc (.cells #[.int .u16 P.1, .slice L.a1 P.2.1.length L.c1, .slice L.a2 P.2.2.1.length L.c2, .slice L.a3 P.2.2.2.1.length L.c3, .slice L.a4 P.2.2.2.2.length L.c4] 28)).alloc (.cells #[.int .i64 P.2.1.length, .int .i64 P.2.2.1.length, .int .i64 P.2.2.2.1.length, .int .i64 P.2.2.2.2.length] 68)) := by
    have hs : (w.alloc (.cells #[.int .u16 P.1, .slice L.a1 P.2.1.length L.c1, .slice L.a2 P.2.2.1.length L.c2, .slice L.a3 P.2.2.2.1.length L.c3, .slice L.a4 P.2.2.2.2.length L.c4] 28)).heap.size = w.heap.size + 1 := by simp
    refine ⟨kept' (by simp) (below_al _ _), kept' (by simp) (below_al _ _), kept' (by simp) (below_al _ _), kept' (by simp) (below_al _ _), kept' (by simp) (below_al _ _), fun k hk => ?_⟩
    rw [← hs]
    match k, hk with
    | 0, _ => simp [cnt]
    | 1, _ => simp [cnt]
    | 2, _ => simp [cnt]
    | 3, _ => simp [cnt]
  have HBB := Lib.hid hbb
  have HB0 := Lib.hid (below_two' (below_al w (.cells #[.int .u16 P.1, .slice L.a1 P.2.1.length L.c1, .slice L.a2 P.2.2.1.length L.c2, .slice L.a3 P.2.2.2.1.length L.c3, .slice L.a4 P.2.2.2.2.length L.c4] 28)) (below_al _ (.cells #[.int .i64 P.2.1.length, .int .i64 P.2.2.1.length, .int .i64 P.2.2.2.1.length, .int .i64 P.2.2.2.2.length] 68)))
  have HT0 := Lib.hid (fun W => str_two P.1 W hW.1)
  have z2 : ∀ n : Int, (bytesL (two n)).size = 2 := fun n => sz_eq _
  have z1 : ∀ n : Int, (bytesL [n]).size = 1 := fun n => sz_eq _
  obtain ⟨fr0, fr1⟩ := hW.1
  have k1 := fun w' h => kept' (w' := w') hbb.b1 h
  clear hP hW h5 h6 hpv k1 hsm
  go_enter Tryd.func13, Tryd.ntmps13
  go_wp2_with fail
  with_reducible refine (HT0.out _).mono ?_
  rintro e w1 ⟨rfl, hB⟩
  have HB1 := Lib.hid (below_two' HB0.out hB)
  have HBB1 := Lib.hid (HBB.out.keep hB)
  clear hB hbb
  simp only [sB]
  go_wp2_with fail
  go_loopw [6, 7] (fun s i wr => R1 P w1 s i wr) (fun _ i _ => 4 - (intOf i).toNat)
  case atStart => exact ⟨0, by omega, rfl, by rw [magic_str, List.take_zero, List.append_nil]; rfl, fun j hj => by omega, Below.refl _ _⟩
  case round =>
    obtain ⟨k, hk, rfl, rfl, hj, hB⟩ := hrel
    have HJ := Lib.hid hj
    have HBr := Lib.hid (below_two' HB1.out hB)
    have HBBr := Lib.hid (HBB1.out.keep hB)
    have HR := Lib.hid hB
    have hpre : (magicL ++ two P.1 ++ (cntL P).take k).length ≤ 1000000 := by simp [magicL, two]; omega
    obtain ⟨l0, hl0⟩ : ∃ l0, l0 = magicL ++ two P.1 ++ (cntL P).take k := ⟨_, rfl⟩
    rw [← hl0] at hpre ⊢
    have hps := sz_le hpre
    have HL0 := Lib.hid hl0
    simp only [sB]
    clear hpre hl0
    by_cases h4k : k < 4
    · have c0 := HBBr.out.c k h4k
      have HFC := Lib.hid (fun h => fit_cnt (P := P) h4k hj h)
      have HTK := Lib.hid (cntL_take P h4k)
      obtain ⟨n, hn⟩ : ∃ n, n = cnt P k := ⟨_, rfl⟩
      rw [← hn] at c0 HFC HTK
      have HN := Lib.hid hn
      clear hj hB hn
      by_cases hb : 255 < n
      · have HE := Lib.hid (HFC.out hb)
        go_wp2_with fail
        refine bodyPost_ret (v := .tuple #[.string ⟨#[]⟩, .int .i64 k, .bool false]) (by simp [results, Tryd.results13, go_sem]) rfl (BytesP.bad HE.out (by omega) HBr.out)
      · have HO1 := Lib.hid (fun W => str_one (n : Int) W (byte_nat (by omega)))
        simp only [sB] at HO1
        have n0 : (0 : Int) ≤ (n : Int) := Int.natCast_nonneg _
        go_wp2_with fail
        with_reducible refine (HO1.out _).mono ?_
        rintro e w2 ⟨rfl, hB⟩
        have HB2 := Lib.hid (HR.out.trans (hB.mono HR.out.size))
        clear hB
        go_wp2_with fail
        go_roundw
        case rel => exact ⟨k + 1, by omega, by go_num, by rw [bytesL_append, HTK.out, HL0.out, List.append_assoc (magicL ++ two P.1)]; rfl, fun j hj => (by
          rcases Nat.lt_or_ge j k with h | h
          · exact HJ.out j h
          · obtain rfl : j = k := by omega
            rw [← HN.out]; omega), HB2.out⟩
        case measure => simp [intOf]; omega
    · obtain rfl : k = 4 := by omega
      have HFR := Lib.hid (fit_rest HJ.out)
      rw [head_eq] at HL0
      have hl0e := HL0.out
      clear hj hB
      go_wp2_with fail
      rename World => W4
      rw [show ((4 : Nat) : Int) = 4 from rfl]
      go_loopw [6, 8] (fun s i wx => R2 P W4 s i wx) (fun _ i _ => P.2.1.length - (intOf i).toNat)
      case atStart => exact ⟨0, Nat.zero_le _, rfl, by rw [hl0e, List.take_zero]; simp [sB], fun j hj => by omega, Below.refl _ _⟩
      case round => as_aux_lemma =>
        obtain ⟨k, hk, rfl, rfl, hj, hB⟩ := hrel
        have HJ := Lib.hid hj
        have HB5 := Lib.hid (below_two' HBr.out hB)
        have HBB5 := Lib.hid (HBBr.out.keep hB)
        have HR5 := Lib.hid hB
        have hpre : (encHead P ++ (P.2.1.take k).flatMap encCore).length ≤ 1000000 := Nat.le_trans (pre_core P k) HSM.out
        obtain ⟨l1, hl1⟩ : ∃ l1, l1 = encHead P ++ (P.2.1.take k).flatMap encCore := ⟨_, rfl⟩
        rw [← hl1] at hpre ⊢
        have hp1 := sz_le hpre
        have HL1 := Lib.hid hl1
        simp only [sB]
        obtain ⟨k0, k1, k2, k3, k4, -⟩ := HBB5.out
        clear hpre hl1 hj
        by_cases hlt : k < P.2.1.length
        · obtain ⟨Pf, g1, g2⟩ := HP.out.cores
          obtain ⟨b, o, hA⟩ := Arr.head g1 hlt
          rw [hA] at g1 k1
          have cc := kept' (Arr.at (j := 0) g1 hlt rfl) HB5.out
          obtain ⟨ws, hws⟩ : ∃ ws, ws = P.2.1.getD k [] := ⟨_, rfl⟩
          have hbig := H5.out _ (getD_mem [] hlt)
          have hat := g2 k hlt
          have hwf := HW.out.2.1 _ (getD_mem [] hlt)
          have HBAD := Lib.hid (fun h => badCore_at (cs := P.2.1) hlt h)
          have HSN := Lib.hid (take_snoc encCore P.2.1 [] hlt)
          rw [← hws] at hbig hat hwf HBAD HSN
          simp only [slV, ← hws, Nat.mul_one, Nat.add_zero] at cc
          have HWS := Lib.hid hws
          have HAT := Lib.hid hat
          have HWF := Lib.hid hwf
          have HA := Lib.hid hA
          obtain ⟨m, hm⟩ : ∃ m, m = ws.length := ⟨_, rfl⟩
          rw [← hm] at cc hbig HBAD
          have HM := Lib.hid hm
          clear g1 g2 hws hat hwf hA hm hB
          by_cases hb : 65535 < m
          · have HE : Hid (fitAt P = 4) := by show _ = _; rw [HFR.out, HBAD.out hb, if_pos rfl]
            go_wp2_with fail
            refine bodyPost_ret (v := .tuple #[.string ⟨#[]⟩, .int .i64 4, .bool false]) (by simp [results, Tryd.results13, go_sem]) rfl (BytesP.bad HE.out (by omega) HB5.out)
          · have HTM := Lib.hid (fun W => str_two (m : Int) W (wide_nat (by omega)))
            simp only [sB] at HTM
            go_wp2_with fail
            with_reducible refine (HTM.out _).mono ?_
            rintro e w6 ⟨rfl, hB⟩
            have HB6 := Lib.hid (below_two' HB5.out hB)
            have HR6 := Lib.hid (HR5.out.trans (hB.mono HR5.out.size))
            have hpre : (l1 ++ two (m : Int)).length + (ws.flatMap encWin).length ≤ 1000000 := by
              have h := Nat.le_trans (pre_core P (k + 1)) HSM.out
              rw [HSN.out, ← List.append_assoc, ← HL1.out] at h
              unfold encCore at h
              rw [← HM.out] at h
              simp only [List.length_append] at h ⊢
              omega
            have HPRE := Lib.hid hpre
            clear hB k0 k1 k2 k3 k4 cc hpre
            go_wp2_with fail
            go_loopw [6, 10] (fun s i wx => R2i (l1 ++ two (m : Int)) ws w6 s i wx) (fun _ i _ => m - (intOf i).toNat)
            case atStart => exact ⟨0, Nat.zero_le _, rfl, by rw [bytesL_append]; simp [sB], Below.refl _ _⟩
            case round => as_aux_lemma =>
              obtain ⟨j, hj, rfl, rfl, hB⟩ := hrel
              have HB7 := Lib.hid (below_two' HB6.out hB)
              have HBc := Lib.hid hB
              have hpre : (l1 ++ two (m : Int) ++ (ws.take j).flatMap encWin).length ≤ 1000000 := by
                have := flat_le encWin ws j
                have := HPRE.out
                rw [List.length_append]
                omega
              obtain ⟨l2, hl2⟩ : ∃ l2, l2 = l1 ++ two (m : Int) ++ (ws.take j).flatMap encWin := ⟨_, rfl⟩
              rw [← hl2] at hpre ⊢
              have hp2 := sz_le hpre
              have HL2 := Lib.hid hl2
              simp only [sB]
              clear hpre hl2
              by_cases hlt2 : j < m
              · have hlw : j < ws.length := by rw [← HM.out]; exact hlt2
                obtain ⟨b2, o2, hA2⟩ := Arr.head HAT.out hlw
                have hg := HAT.out
                rw [hA2] at hg
                have c0 := kept' (Arr.at (j := 0) hg hlw rfl) HB7.out
                have c1 := kept' (Arr.at (j := 1) hg hlw rfl) HB7.out
                have c2 := kept' (Arr.at (j := 2) hg hlw rfl) HB7.out
                have c3 := kept' (Arr.at (j := 3) hg hlw rfl) HB7.out
                obtain ⟨⟨x0, x1, x2, x3⟩, hx⟩ : ∃ x, x = ws.getD j dW := ⟨_, rfl⟩
                have hwx := HWF.out _ (getD_mem dW hlw)
                rw [← hx] at hwx
                simp only [← hx, Nat.add_zero] at c0 c1 c2 c3
                have HSW := Lib.hid (take_snoc encWin ws dW hlw)
                rw [← hx] at HSW
                obtain ⟨wx0, wx1, wx2, wx3⟩ := hwx
                have HC0 := Lib.hid (fun W => str_two x0 W wx0)
                have HC1 := Lib.hid (fun W => str_two x1 W wx1)
                have HC2 := Lib.hid (fun W => str_one x2 W wx2)
                have HC3 := Lib.hid (fun W => str_one x3 W wx3)
                simp only [sB] at HC0 HC1 HC2 HC3
                have v0 := wrapI wx0
                have v1 := wrapI wx1
                have s6 : ¬ 9223372036854775807 < (bytesL l2).size + 6 := by omega
                obtain ⟨wx0a, wx0b⟩ := wx0
                obtain ⟨wx1a, wx1b⟩ := wx1
                dsimp only at wx0a wx0b wx1a wx1b
                have HA2 := Lib.hid hA2
                clear hg hx hB wx2 wx3 hA2
                rw [HA2.out]
                go_wp2_with fail
                go_region_held3 (fun w' => w'.cell? ⟨b2, o2 + j * 4, none⟩ = some (.int .u16 x0) ∧ w'.cell? ⟨b2, o2 + j * 4 + 1, none⟩ = some (.int .u16 x1) ∧ w'.cell? ⟨b2, o2 + j * 4 + 2, none⟩ = some (.int .u8 x2) ∧ w'.cell? ⟨b2, o2 + j * 4 + 3, none⟩ = some (.int .u8 x3))
                  (first | exact ⟨c0, c1, c2, c3⟩ | go_keep)
                  (first
                    | (go_at_call 25
                       (with_reducible refine (HC0.out _).mono ?_)
                       rintro e wn ⟨rfl, hB⟩
                       have c0 := by first | exact kept' c0 hB | exact keptd c0 hB
                       have c1 := by first | exact kept' c1 hB | exact keptd c1 hB
                       have c2 := by first | exact kept' c2 hB | exact keptd c2 hB
                       have c3 := by first | exact kept' c3 hB | exact keptd c3 hB
                       have HBc := by first | exact Lib.hid (HBc.out.trans (hB.mono HBc.out.size)) | exact Lib.hid (HBc.out.drew.trans (hB.mono HBc.out.size))
                       clear hB)
                    | (go_at_call 25
                       (with_reducible refine (HC1.out _).mono ?_)
                       rintro e wn ⟨rfl, hB⟩
                       have c0 := by first | exact kept' c0 hB | exact keptd c0 hB
                       have c1 := by first | exact kept' c1 hB | exact keptd c1 hB
                       have c2 := by first | exact kept' c2 hB | exact keptd c2 hB
                       have c3 := by first | exact kept' c3 hB | exact keptd c3 hB
                       have HBc := by first | exact Lib.hid (HBc.out.trans (hB.mono HBc.out.size)) | exact Lib.hid (HBc.out.drew.trans (hB.mono HBc.out.size))
                       clear hB)
                    | (go_at_call 26
                       (with_reducible refine (HC2.out _).mono ?_)
                       rintro e wn ⟨rfl, hB⟩
                       have c0 := by first | exact kept' c0 hB | exact keptd c0 hB
                       have c1 := by first | exact kept' c1 hB | exact keptd c1 hB
                       have c2 := by first | exact kept' c2 hB | exact keptd c2 hB
                       have c3 := by first | exact kept' c3 hB | exact keptd c3 hB
                       have HBc := by first | exact Lib.hid (HBc.out.trans (hB.mono HBc.out.size)) | exact Lib.hid (HBc.out.drew.trans (hB.mono HBc.out.size))
                       clear hB)
                    | (go_at_call 26
                       (with_reducible refine (HC3.out _).mono ?_)
                       rintro e wn ⟨rfl, hB⟩
                       have c0 := by first | exact kept' c0 hB | exact keptd c0 hB
                       have c1 := by first | exact kept' c1 hB | exact keptd c1 hB
                       have c2 := by first | exact kept' c2 hB | exact keptd c2 hB
                       have c3 := by first | exact kept' c3 hB | exact keptd c3 hB
                       have HBc := by first | exact Lib.hid (HBc.out.trans (hB.mono HBc.out.size)) | exact Lib.hid (HBc.out.drew.trans (hB.mono HBc.out.size))
                       clear hB))
                go_wp2_with fail
                all_goals
                  go_roundw
                  case rel => exact ⟨j + 1, by omega, by go_num, by simp only [bytesL_append, HSW.out, HL2.out, sB]; simp [encWin], by first | exact HBc.out | exact HBc.out.drew⟩
                  case measure => simp [intOf]; omega
              · have hjm : m = j := by have := HM.out; omega
                subst hjm
                have HWL := Lib.hid (show (ws.take m).flatMap encWin = ws.flatMap encWin by rw [HM.out, List.take_length])
                clear hB
                go_wp2_with fail
                go_roundw
                case rel => exact ⟨k + 1, by omega, by go_num, by rw [HL2.out, HWL.out, HSN.out, ← List.append_assoc (encHead P), ← HL1.out]; unfold encCore; rw [← HM.out]; simp [sB], fun i hi => (by
                  rcases Nat.lt_or_ge i k with h | h
                  · exact HJ.out i h
                  · obtain rfl : i = k := by omega
                    rw [← HWS.out, ← HM.out]; omega), HR6.out.trans (HBc.out.mono HR6.out.size)⟩
                case measure => simp [intOf]; omega
        · obtain rfl : k = P.2.1.length := by omega
          rw [List.take_length] at HL1
          have HE2 : Hid (fitAt P = badPart P.2.2.1) := by
            show _ = _
            rw [HFR.out, badCore_no HJ.out, if_neg (by simp)]
          have hl1e := HL1.out
          clear hB
          go_wp2_with fail
          clear k0 k1 k2 k3 k4
          rename World => W5
          go_loopw [6, 11] (fun s i wx => R3 P W5 s i wx) (fun _ i _ => P.2.2.1.length - (intOf i).toNat)
          case atStart => exact ⟨0, Nat.zero_le _, rfl, by rw [hl1e, List.take_zero]; simp [sB], fun j hj => by omega, Below.refl _ _⟩
          case round => as_aux_lemma =>
            obtain ⟨k, hk, rfl, rfl, hj, hB⟩ := hrel
            have HJ := Lib.hid hj
            have HB6 := Lib.hid (below_two' HB5.out hB)
            have HBB6 := Lib.hid (HBB5.out.keep hB)
            have HR6 := Lib.hid hB
            have hpre : (encHead P ++ P.2.1.flatMap encCore ++ (P.2.2.1.take k).flatMap encPart).length ≤ 1000000 := Nat.le_trans (pre_part P k) HSM.out
            obtain ⟨l3, hl3⟩ : ∃ l3, l3 = encHead P ++ P.2.1.flatMap encCore ++ (P.2.2.1.take k).flatMap encPart := ⟨_, rfl⟩
            rw [← hl3] at hpre ⊢
            have hp3 := sz_le hpre
            have HL3 := Lib.hid hl3
            simp only [sB]
            obtain ⟨k0, k1, k2, k3, k4, -⟩ := HBB6.out
            clear hpre hl3 hj
            by_cases hlt : k < P.2.2.1.length
            · obtain ⟨Sf, Qf, g1, g2⟩ := HP.out.parts
              obtain ⟨b, o, hA⟩ := Arr.head g1 hlt
              rw [hA] at g1 k2
              obtain ⟨⟨ss, ev, pp, a0, a1, a2⟩, hq⟩ : ∃ q, q = P.2.2.1.getD k dQ := ⟨_, rfl⟩
              have hmem := H6.out _ (getD_mem dQ hlt)
              have hat := g2 k hlt
              have hwf := HW.out.2.2.1 _ (getD_mem dQ hlt)
              have hg := g1.keep HB6.out
              have e0 := hg.at (j := 0) hlt rfl
              have e1 := hg.at (j := 1) hlt rfl
              have e2 := hg.at (j := 2) hlt rfl
              have e3 := hg.at (j := 3) hlt rfl
              have e4 := hg.at (j := 4) hlt rfl
              have e5 := hg.at (j := 5) hlt rfl
              have HBP := Lib.hid (badPart_at (ps := P.2.2.1) (k := k) HJ.out hlt)
              have HSN := Lib.hid (take_snoc encPart P.2.2.1 dQ hlt)
              rw [← hq] at HBP HSN hat hwf hmem
              simp only [slV, ← hq, Nat.add_zero] at e0 e1 e2 e3 e4 e5
              dsimp only at hmem hat
              obtain ⟨hs1, hs2⟩ := hmem
              have HAT := Lib.hid hat
              have HWF := Lib.hid hwf
              have HQ := Lib.hid hq
              obtain ⟨m1, hm1⟩ : ∃ m, m = ss.length := ⟨_, rfl⟩
              obtain ⟨m2, hm2⟩ : ∃ m, m = pp.length := ⟨_, rfl⟩
              rw [← hm1] at e0 hs1
              rw [← hm2] at e2 hs2
              have HM1 := Lib.hid hm1
              have HM2 := Lib.hid hm2
              clear hg g1 g2 hat hwf hq hm1 hm2 hA hB
              by_cases hb1 : 255 < m1
              · have HE : Hid (fitAt P = 5) := by show _ = _; rw [HE2.out]; exact HBP.out.1 (by show 255 < ss.length; rw [← HM1.out]; exact hb1)
                go_wp2_with fail
                refine bodyPost_ret (v := .tuple #[.string ⟨#[]⟩, .int .i64 5, .bool false]) (by simp [results, Tryd.results13, go_sem]) rfl (BytesP.bad HE.out (by omega) (HB6.out.alloc HB6.out.size _))
              by_cases hb2 : 255 < m2
              · have HE : Hid (fitAt P = 6) := by show _ = _; rw [HE2.out]; exact HBP.out.2 (by show ss.length ≤ 255; rw [← HM1.out]; omega) (by show 255 < pp.length; rw [← HM2.out]; exact hb2)
                go_wp2_with fail
                refine bodyPost_ret (v := .tuple #[.string ⟨#[]⟩, .int .i64 6, .bool false]) (by simp [results, Tryd.results13, go_sem]) rfl (BytesP.bad HE.out (by omega) (HB6.out.alloc HB6.out.size _))
              have HTM := Lib.hid (fun W => str_one (m1 : Int) W (byte_nat (by omega)))
              simp only [sB] at HTM
              have hqb := QBB.new wr (Sf k) m1 ev (Qf k) m2 a0 a1 a2
              have HQB := Lib.hid hqb
              have HALB := Lib.hid (below_al wr (.cells #[.slice (Sf k).1 m1 (Sf k).2, .int .u8 ev, .slice (Qf k).1 m2 (Qf k).2, .int .u8 a0, .int .u8 a1, .int .u8 a2] 56))
              obtain ⟨wb, hwb⟩ : ∃ wb, wb = wr.heap.size := ⟨_, rfl⟩
              rw [← hwb] at HQB
              have HWB := Lib.hid hwb
              go_wp2_with fail
              with_reducible refine (HTM.out _).mono ?_
              rintro e w7 ⟨rfl, hB⟩
              rw [← HWB.out]
              have HR7 := Lib.hid (HR6.out.trans ((below_two' HALB.out hB).mono HR6.out.size))
              have HB7 := Lib.hid (below_two' HB6.out (below_two' HALB.out hB))
              have HQ7 := Lib.hid (HQB.out.keep hB)
              have hcap : (l3 ++ encPart (ss, ev, pp, a0, a1, a2)).length ≤ 1000000 := by
                have h := Nat.le_trans (pre_part P (k + 1)) HSM.out
                rw [HSN.out, ← List.append_assoc, ← HL3.out] at h
                exact h
              have HCAP := Lib.hid hcap
              obtain ⟨f0, f1, f2, f3, f4, f5⟩ := HQ7.out
              clear hB hqb hwb hcap e0 e1 e2 e3 e4 e5 k0 k1 k2 k3 k4
              go_wp2_with fail
              go_loopw [6, 13] (fun s i wx => R3a (l3 ++ [(m1 : Int)]) ss w7 s i wx) (fun _ i _ => m1 - (intOf i).toNat)
              case atStart => exact ⟨0, Nat.zero_le _, rfl, by rw [bytesL_append]; simp [sB], Below.refl _ _⟩
              case round => as_aux_lemma =>
                obtain ⟨j, hj, rfl, rfl, hB⟩ := hrel
                have HB8 := Lib.hid (below_two' HB7.out hB)
                have HBc := Lib.hid hB
                have HQ8 := Lib.hid (HQ7.out.keep hB)
                have hpre : (l3 ++ [(m1 : Int)] ++ (ss.take j).flatMap encSem).length ≤ 1000000 := by
                  have h1 := flat_le encSem ss j
                  have h2 := HCAP.out
                  unfold encPart at h2
                  simp only [List.length_append, List.length_cons, List.length_nil] at h2 ⊢
                  omega
                obtain ⟨l4, hl4⟩ : ∃ l4, l4 = l3 ++ [(m1 : Int)] ++ (ss.take j).flatMap encSem := ⟨_, rfl⟩
                rw [← hl4] at hpre ⊢
                have hp4 := sz_le hpre
                have HL4 := Lib.hid hl4
                simp only [sB]
                obtain ⟨f0, f1, f2, f3, f4, f5⟩ := HQ8.out
                clear hpre hl4
                by_cases hlt2 : j < m1
                · have hlw : j < ss.length := by rw [← HM1.out]; exact hlt2
                  obtain ⟨b2, o2, hA2⟩ := Arr.head HAT.out.1 hlw
                  have hg := HAT.out.1
                  rw [hA2] at hg f0
                  have z0 := kept' (Arr.at (j := 0) hg hlw rfl) HB8.out
                  have z1 := kept' (Arr.at (j := 1) hg hlw rfl) HB8.out
                  obtain ⟨⟨x0, x1⟩, hx⟩ : ∃ x, x = ss.getD j dS := ⟨_, rfl⟩
                  have hwx := HWF.out.1 _ (getD_mem dS hlw)
                  rw [← hx] at hwx
                  simp only [← hx, Nat.add_zero] at z0 z1
                  have HSW := Lib.hid (take_snoc encSem ss dS hlw)
                  rw [← hx] at HSW
                  obtain ⟨wx0, wx1⟩ := hwx
                  have HC0 := Lib.hid (fun W => str_one x0 W wx0)
                  have HC1 := Lib.hid (fun W => str_one x1 W wx1)
                  simp only [sB] at HC0 HC1
                  have s2 : ¬ 9223372036854775807 < (bytesL l4).size + 2 := by omega
                  have ii0 : (0 : Int) ≤ (j : Int) := Int.natCast_nonneg _
                  have ii1 : (j : Int) < (m1 : Int) := by omega
                  clear hg hx hB wx0 wx1 hA2 f1 f2 f3 f4 f5
                  go_wp2_with fail
                  go_region_held3 (fun w' => w'.cell? ⟨wb, 0, none⟩ = some (.slice (some ⟨b2, o2, none⟩) m1 (Sf k).2) ∧ w'.cell? ⟨b2, o2 + j * 2, none⟩ = some (.int .u8 x0) ∧ w'.cell? ⟨b2, o2 + j * 2 + 1, none⟩ = some (.int .u8 x1))
                    (first | exact ⟨f0, z0, z1⟩ | go_keep)
                    (first
                      | (go_at_call 26
                         (with_reducible refine (HC0.out _).mono ?_)
                         rintro e wn ⟨rfl, hB⟩
                         have f0 := by first | exact kept' f0 hB | exact keptd f0 hB
                         have z0 := by first | exact kept' z0 hB | exact keptd z0 hB
                         have z1 := by first | exact kept' z1 hB | exact keptd z1 hB
                         have HBc := by first | exact Lib.hid (HBc.out.trans (hB.mono HBc.out.size)) | exact Lib.hid (HBc.out.drew.trans (hB.mono HBc.out.size))
                         clear hB)
                      | (go_at_call 26
                         (with_reducible refine (HC1.out _).mono ?_)
                         rintro e wn ⟨rfl, hB⟩
                         have f0 := by first | exact kept' f0 hB | exact keptd f0 hB
                         have z0 := by first | exact kept' z0 hB | exact keptd z0 hB
                         have z1 := by first | exact kept' z1 hB | exact keptd z1 hB
                         have HBc := by first | exact Lib.hid (HBc.out.trans (hB.mono HBc.out.size)) | exact Lib.hid (HBc.out.drew.trans (hB.mono HBc.out.size))
                         clear hB))
                  go_wp2_with fail
                  all_goals
                    go_roundw
                    case rel => exact ⟨j + 1, by omega, by go_num, by simp only [bytesL_append, HSW.out, HL4.out, sB]; simp [encSem], by first | exact HBc.out | exact HBc.out.drew⟩
                    case measure => simp [intOf]; omega
                · have hjm : m1 = j := by have := HM1.out; omega
                  subst hjm
                  have HSE := Lib.hid (show (ss.take m1).flatMap encSem = ss.flatMap encSem by rw [HM1.out, List.take_length])
                  obtain ⟨wss, wev, wpp, wa0, wa1, wa2⟩ := HWF.out
                  dsimp only at wss wev wpp wa0 wa1 wa2
                  have HC0 := Lib.hid (fun W => str_one ev W wev)
                  have HC1 := Lib.hid (fun W => str_one (m2 : Int) W (byte_nat (by omega)))
                  have HD0 := Lib.hid (fun W => str_one a0 W wa0)
                  have HD1 := Lib.hid (fun W => str_one a1 W wa1)
                  have HD2 := Lib.hid (fun W => str_one a2 W wa2)
                  have HPP := Lib.hid wpp
                  simp only [sB] at HC0 HC1 HD0 HD1 HD2
                  have s2 : ¬ 9223372036854775807 < (bytesL l4).size + 2 := by omega
                  have u2 : IntKind.u8.wrap (m2 : Int) = (m2 : Int) := wrapB (by omega)
                  clear hB wss wev wpp wa0 wa1 wa2
                  go_wp2_with fail
                  go_region_held3 (fun w' => w'.cell? ⟨wb, 1, none⟩ = some (.int .u8 ev) ∧ w'.cell? ⟨wb, 2, none⟩ = some (.slice (Qf k).1 m2 (Qf k).2))
                    (first | exact ⟨f1, f2⟩ | go_keep)
                    (first
                      | (go_at_call 26
                         (with_reducible refine (HC0.out _).mono ?_)
                         rintro e wn ⟨rfl, hB⟩
                         have f1 := by first | exact kept' f1 hB | exact keptd f1 hB
                         have f2 := by first | exact kept' f2 hB | exact keptd f2 hB
                         have HBc := by first | exact Lib.hid (HBc.out.trans (hB.mono HBc.out.size)) | exact Lib.hid (HBc.out.drew.trans (hB.mono HBc.out.size))
                         clear hB)
                      | (go_at_call 26
                         (with_reducible refine (HC1.out _).mono ?_)
                         rintro e wn ⟨rfl, hB⟩
                         have f1 := by first | exact kept' f1 hB | exact keptd f1 hB
                         have f2 := by first | exact kept' f2 hB | exact keptd f2 hB
                         have HBc := by first | exact Lib.hid (HBc.out.trans (hB.mono HBc.out.size)) | exact Lib.hid (HBc.out.drew.trans (hB.mono HBc.out.size))
                         clear hB))
                  have HBd := Lib.hid (HB7.out.trans (HBc.out.mono HB7.out.size))
                  have HR8 := Lib.hid (HR7.out.trans (HBc.out.mono HR7.out.size))
                  go_wp2_with fail
                  rename World => W8
                  have HQ9 := Lib.hid (HQ7.out.keep HBc.out)
                  clear f0 f1 f2 f3 f4 f5
                  go_loopw [6, 14] (fun s i wx => R3b (l4 ++ [ev, (m2 : Int)]) pp W8 s i wx) (fun _ i _ => m2 - (intOf i).toNat)
                  case atStart => exact ⟨0, Nat.zero_le _, rfl, by simp only [bytesL_append, sB]; simp, Below.refl _ _⟩
                  case round => as_aux_lemma =>
                    obtain ⟨j, hj, rfl, rfl, hB⟩ := hrel
                    have HB9 := Lib.hid (below_two' HBd.out hB)
                    have HBe := Lib.hid hB
                    have HQA := Lib.hid (HQ9.out.keep hB)
                    have hpre : (l4 ++ [ev, (m2 : Int)] ++ pp.take j).length ≤ 1000000 := by
                      have h2 := HCAP.out
                      have h3 := congrArg List.length HL4.out
                      rw [HSE.out] at h3
                      unfold encPart at h2
                      have h4 : (pp.take j).length ≤ pp.length := by rw [List.length_take]; exact Nat.min_le_right _ _
                      simp only [List.length_append, List.length_cons, List.length_nil] at h2 h3 ⊢
                      omega
                    obtain ⟨l5, hl5⟩ : ∃ l5, l5 = l4 ++ [ev, (m2 : Int)] ++ pp.take j := ⟨_, rfl⟩
                    rw [← hl5] at hpre ⊢
                    have hp5 := sz_le hpre
                    have HL5 := Lib.hid hl5
                    simp only [sB]
                    obtain ⟨f0, f1, f2, f3, f4, f5⟩ := HQA.out
                    clear hpre hl5
                    by_cases hlt3 : j < m2
                    · have hlw : j < pp.length := by rw [← HM2.out]; exact hlt3
                      obtain ⟨b3, o3, hA3⟩ := Arr.head HAT.out.2.1 hlw
                      have hg := HAT.out.2.1
                      rw [hA3] at hg f2
                      have z0 := kept' (Arr.at (j := 0) hg hlw rfl) HB9.out
                      obtain ⟨x0, hx⟩ : ∃ x, x = pp.getD j 0 := ⟨_, rfl⟩
                      have hwx := HPP.out _ (getD_mem 0 hlw)
                      rw [← hx] at hwx
                      simp only [bV, ← hx, Nat.add_zero, Nat.mul_one] at z0
                      have HSW := Lib.hid (show pp.take (j + 1) = pp.take j ++ [x0] by rw [List.take_succ_eq_append_getElem hlw, hx, List.getD_eq_getElem?_getD, List.getElem?_eq_getElem hlw]; rfl)
                      have HC9 := Lib.hid (fun W => str_one x0 W hwx)
                      simp only [sB] at HC9
                      clear hg hx hwx hB hA3
                      go_wp2_with fail
                      with_reducible refine (HC9.out _).mono ?_
                      rintro e wq ⟨rfl, hB⟩
                      have HBf := Lib.hid (HBe.out.trans (hB.mono HBe.out.size))
                      clear hB
                      go_wp2_with fail
                      go_roundw
                      case rel => exact ⟨j + 1, by omega, by go_num, by simp only [bytesL_append, HSW.out, HL5.out, sB]; simp, HBf.out⟩
                      case measure => simp [intOf]; omega
                    · have hjm : m2 = j := by have := HM2.out; omega
                      subst hjm
                      have HPE := Lib.hid (show pp.take m2 = pp by rw [HM2.out, List.take_length])
                      have HBc := Lib.hid hB
                      have s3 : ¬ 9223372036854775807 < (bytesL l5).size + 3 := by omega
                      clear hB
                      go_wp2_with fail
                      go_region_held3 (fun w' => w'.cell? ⟨wb, 3, none⟩ = some (.int .u8 a0) ∧ w'.cell? ⟨wb, 4, none⟩ = some (.int .u8 a1) ∧ w'.cell? ⟨wb, 5, none⟩ = some (.int .u8 a2))
                        (first | exact ⟨f3, f4, f5⟩ | go_keep)
                        (first
                          | (go_at_call 26
                             (with_reducible refine (HD0.out _).mono ?_)
                             rintro e wn ⟨rfl, hB⟩
                             have f3 := by first | exact kept' f3 hB | exact keptd f3 hB
                             have f4 := by first | exact kept' f4 hB | exact keptd f4 hB
                             have f5 := by first | exact kept' f5 hB | exact keptd f5 hB
                             have HBc := by first | exact Lib.hid (HBc.out.trans (hB.mono HBc.out.size)) | exact Lib.hid (HBc.out.drew.trans (hB.mono HBc.out.size))
                             clear hB)
                          | (go_at_call 26
                             (with_reducible refine (HD1.out _).mono ?_)
                             rintro e wn ⟨rfl, hB⟩
                             have f3 := by first | exact kept' f3 hB | exact keptd f3 hB
                             have f4 := by first | exact kept' f4 hB | exact keptd f4 hB
                             have f5 := by first | exact kept' f5 hB | exact keptd f5 hB
                             have HBc := by first | exact Lib.hid (HBc.out.trans (hB.mono HBc.out.size)) | exact Lib.hid (HBc.out.drew.trans (hB.mono HBc.out.size))
                             clear hB)
                          | (go_at_call 26
                             (with_reducible refine (HD2.out _).mono ?_)
                             rintro e wn ⟨rfl, hB⟩
                             have f3 := by first | exact kept' f3 hB | exact keptd f3 hB
                             have f4 := by first | exact kept' f4 hB | exact keptd f4 hB
                             have f5 := by first | exact kept' f5 hB | exact keptd f5 hB
                             have HBc := by first | exact Lib.hid (HBc.out.trans (hB.mono HBc.out.size)) | exact Lib.hid (HBc.out.drew.trans (hB.mono HBc.out.size))
                             clear hB))
                      have HR9 := Lib.hid (HR8.out.trans (HBc.out.mono HR8.out.size))
                      go_wp2_with fail
                      go_roundw
                      case rel =>
                        refine ⟨k + 1, by omega, by go_num, ?_, fun i hi => ?_, HR9.out⟩
                        · simp only [bytesL_append, sB]
                          rw [HSN.out, ← List.append_assoc (encHead P ++ _), ← HL3.out, HL5.out, HPE.out, HL4.out, HSE.out]
                          unfold encPart
                          dsimp only
                          rw [← HM1.out, ← HM2.out]
                          simp
                        · rcases Nat.lt_or_ge i k with h | h
                          · exact HJ.out i h
                          · obtain rfl : i = k := by omega
                            rw [← HQ.out]
                            dsimp only
                            rw [← HM1.out, ← HM2.out]
                            omega
                      case measure => simp [intOf]; omega
            · obtain rfl : k = P.2.2.1.length := by omega
              rw [List.take_length] at HL3
              have HE3 : Hid (fitAt P = -1) := by
                show _ = _
                rw [HE2.out, badPart_no HJ.out]
              have hl3e := HL3.out
              clear hB
              go_wp2_with fail
              clear k0 k1 k2 k3 k4
              rename World => W6
              go_loopw [6, 15] (fun s i wx => R4 l3 P.2.2.2.1 W6 s i wx) (fun _ i _ => P.2.2.2.1.length - (intOf i).toNat)
              case atStart => exact ⟨0, Nat.zero_le _, rfl, by rw [List.take_zero]; simp [sB], Below.refl _ _⟩
              case round => as_aux_lemma =>
                obtain ⟨k, hk, rfl, rfl, hB⟩ := hrel
                have HB7 := Lib.hid (below_two' HB6.out hB)
                have HBB7 := Lib.hid (HBB6.out.keep hB)
                have HR7 := Lib.hid hB
                have hpre : (l3 ++ (P.2.2.2.1.take k).flatMap encChan).length ≤ 1000000 := by rw [hl3e]; exact Nat.le_trans (pre_chan P k) HSM.out
                obtain ⟨l6, hl6⟩ : ∃ l6, l6 = l3 ++ (P.2.2.2.1.take k).flatMap encChan := ⟨_, rfl⟩
                rw [← hl6] at hpre ⊢
                have hp6 := sz_le hpre
                have HL6 := Lib.hid hl6
                simp only [sB]
                obtain ⟨k0, k1, k2, k3, k4, -⟩ := HBB7.out
                clear hpre hl6
                by_cases hlt : k < P.2.2.2.1.length
                · obtain ⟨b, o, hA⟩ := Arr.head HP.out.chans hlt
                  have hg := HP.out.chans.keep HB7.out
                  rw [hA] at hg k3
                  have e0 := Arr.at (j := 0) hg hlt rfl
                  have e1 := Arr.at (j := 1) hg hlt rfl
                  have e2 := Arr.at (j := 2) hg hlt rfl
                  have e3 := Arr.at (j := 3) hg hlt rfl
                  have e4 := Arr.at (j := 4) hg hlt rfl
                  have e5 := Arr.at (j := 5) hg hlt rfl
                  obtain ⟨⟨y0, y1, y2, y3, y4, y5⟩, hy⟩ : ∃ y, y = P.2.2.2.1.getD k dC := ⟨_, rfl⟩
                  have hwy := HW.out.2.2.2.1 _ (getD_mem dC hlt)
                  rw [← hy] at hwy
                  simp only [← hy, Nat.add_zero] at e0 e1 e2 e3 e4 e5
                  have HSN := Lib.hid (take_snoc encChan P.2.2.2.1 dC hlt)
                  rw [← hy] at HSN
                  obtain ⟨wy0, wy1, wy2, wy3, wy4, wy5⟩ := hwy
                  have HC0 := Lib.hid (fun W => str_one y0 W wy0)
                  have HC1 := Lib.hid (fun W => str_one y1 W wy1)
                  have HC2 := Lib.hid (fun W => str_one y2 W wy2)
                  have HC3 := Lib.hid (fun W => str_one y3 W wy3)
                  have HC4 := Lib.hid (fun W => str_one y4 W wy4)
                  have HC5 := Lib.hid (fun W => str_two y5 W wy5)
                  simp only [sB] at HC0 HC1 HC2 HC3 HC4 HC5
                  have v5 := wrapI wy5
                  obtain ⟨wy5a, wy5b⟩ := wy5
                  dsimp only at wy5a wy5b v5
                  have s7 : ¬ 9223372036854775807 < (bytesL l6).size + 7 := by omega
                  have hcb := CB6.new wr y0 y1 y2 y3 y4 y5
                  obtain ⟨wb, hwb⟩ : ∃ wb, wb = wr.heap.size := ⟨_, rfl⟩
                  rw [← hwb] at hcb
                  have HWB := Lib.hid hwb
                  obtain ⟨f0, f1, f2, f3, f4, f5⟩ := hcb
                  have HBc := Lib.hid (hB.alloc hB.size (.cells #[.int .u8 y0, .int .u8 y1, .int .u8 y2, .int .u8 y3, .int .u8 y4, .int .u16 y5] 60))
                  clear hg hy hB wy0 wy1 wy2 wy3 wy4 hA hwb
                  go_wp2_with fail
                  rw [← HWB.out]
                  generalize wr.alloc (.cells #[.int .u8 y0, .int .u8 y1, .int .u8 y2, .int .u8 y3, .int .u8 y4, .int .u16 y5] 60) = W9 at *
                  clear e0 e1 e2 e3 e4 e5 k0 k1 k2 k3 k4
                  go_region_held3 (fun w' => w'.cell? ⟨wb, 0, none⟩ = some (.int .u8 y0) ∧ w'.cell? ⟨wb, 1, none⟩ = some (.int .u8 y1) ∧ w'.cell? ⟨wb, 2, none⟩ = some (.int .u8 y2) ∧ w'.cell? ⟨wb, 3, none⟩ = some (.int .u8 y3) ∧ w'.cell? ⟨wb, 4, none⟩ = some (.int .u8 y4) ∧ w'.cell? ⟨wb, 5, none⟩ = some (.int .u16 y5))
                    (first | exact ⟨f0, f1, f2, f3, f4, f5⟩ | go_keep)
                    (first
                      | (go_at_call 26
                         (with_reducible refine (HC0.out _).mono ?_)
                         rintro e wn ⟨rfl, hB⟩
                         have f0 := by first | exact kept' f0 hB | exact keptd f0 hB
                         have f1 := by first | exact kept' f1 hB | exact keptd f1 hB
                         have f2 := by first | exact kept' f2 hB | exact keptd f2 hB
                         have f3 := by first | exact kept' f3 hB | exact keptd f3 hB
                         have f4 := by first | exact kept' f4 hB | exact keptd f4 hB
                         have f5 := by first | exact kept' f5 hB | exact keptd f5 hB
                         have HBc := by first | exact Lib.hid (HBc.out.trans (hB.mono HBc.out.size)) | exact Lib.hid (HBc.out.drew.trans (hB.mono HBc.out.size))
                         clear hB)
                      | (go_at_call 26
                         (with_reducible refine (HC1.out _).mono ?_)
                         rintro e wn ⟨rfl, hB⟩
                         have f0 := by first | exact kept' f0 hB | exact keptd f0 hB
                         have f1 := by first | exact kept' f1 hB | exact keptd f1 hB
                         have f2 := by first | exact kept' f2 hB | exact keptd f2 hB
                         have f3 := by first | exact kept' f3 hB | exact keptd f3 hB
                         have f4 := by first | exact kept' f4 hB | exact keptd f4 hB
                         have f5 := by first | exact kept' f5 hB | exact keptd f5 hB
                         have HBc := by first | exact Lib.hid (HBc.out.trans (hB.mono HBc.out.size)) | exact Lib.hid (HBc.out.drew.trans (hB.mono HBc.out.size))
                         clear hB)
                      | (go_at_call 26
                         (with_reducible refine (HC2.out _).mono ?_)
                         rintro e wn ⟨rfl, hB⟩
                         have f0 := by first | exact kept' f0 hB | exact keptd f0 hB
                         have f1 := by first | exact kept' f1 hB | exact keptd f1 hB
                         have f2 := by first | exact kept' f2 hB | exact keptd f2 hB
                         have f3 := by first | exact kept' f3 hB | exact keptd f3 hB
                         have f4 := by first | exact kept' f4 hB | exact keptd f4 hB
                         have f5 := by first | exact kept' f5 hB | exact keptd f5 hB
                         have HBc := by first | exact Lib.hid (HBc.out.trans (hB.mono HBc.out.size)) | exact Lib.hid (HBc.out.drew.trans (hB.mono HBc.out.size))
                         clear hB)
                      | (go_at_call 26
                         (with_reducible refine (HC3.out _).mono ?_)
                         rintro e wn ⟨rfl, hB⟩
                         have f0 := by first | exact kept' f0 hB | exact keptd f0 hB
                         have f1 := by first | exact kept' f1 hB | exact keptd f1 hB
                         have f2 := by first | exact kept' f2 hB | exact keptd f2 hB
                         have f3 := by first | exact kept' f3 hB | exact keptd f3 hB
                         have f4 := by first | exact kept' f4 hB | exact keptd f4 hB
                         have f5 := by first | exact kept' f5 hB | exact keptd f5 hB
                         have HBc := by first | exact Lib.hid (HBc.out.trans (hB.mono HBc.out.size)) | exact Lib.hid (HBc.out.drew.trans (hB.mono HBc.out.size))
                         clear hB)
                      | (go_at_call 26
                         (with_reducible refine (HC4.out _).mono ?_)
                         rintro e wn ⟨rfl, hB⟩
                         have f0 := by first | exact kept' f0 hB | exact keptd f0 hB
                         have f1 := by first | exact kept' f1 hB | exact keptd f1 hB
                         have f2 := by first | exact kept' f2 hB | exact keptd f2 hB
                         have f3 := by first | exact kept' f3 hB | exact keptd f3 hB
                         have f4 := by first | exact kept' f4 hB | exact keptd f4 hB
                         have f5 := by first | exact kept' f5 hB | exact keptd f5 hB
                         have HBc := by first | exact Lib.hid (HBc.out.trans (hB.mono HBc.out.size)) | exact Lib.hid (HBc.out.drew.trans (hB.mono HBc.out.size))
                         clear hB)
                      | (go_at_call 25
                         (with_reducible refine (HC5.out _).mono ?_)
                         rintro e wn ⟨rfl, hB⟩
                         have f0 := by first | exact kept' f0 hB | exact keptd f0 hB
                         have f1 := by first | exact kept' f1 hB | exact keptd f1 hB
                         have f2 := by first | exact kept' f2 hB | exact keptd f2 hB
                         have f3 := by first | exact kept' f3 hB | exact keptd f3 hB
                         have f4 := by first | exact kept' f4 hB | exact keptd f4 hB
                         have f5 := by first | exact kept' f5 hB | exact keptd f5 hB
                         have HBc := by first | exact Lib.hid (HBc.out.trans (hB.mono HBc.out.size)) | exact Lib.hid (HBc.out.drew.trans (hB.mono HBc.out.size))
                         clear hB))
                  go_wp2_with fail
                  all_goals
                    go_roundw
                    case rel => exact ⟨k + 1, by omega, by go_num, by simp only [bytesL_append, HSN.out, HL6.out, sB]; simp [encChan], by first | exact HBc.out | exact HBc.out.drew⟩
                    case measure => simp [intOf]; omega
                · obtain rfl : k = P.2.2.2.1.length := by omega
                  rw [List.take_length] at HL6
                  have hl6e := HL6.out
                  clear hB
                  go_wp2_with fail
                  clear k0 k1 k2 k3 k4
                  rename World => W7
                  go_loopw [6, 17] (fun s i wx => R5 l6 P.2.2.2.2 W7 s i wx) (fun _ i _ => P.2.2.2.2.length - (intOf i).toNat)
                  case atStart => exact ⟨0, Nat.zero_le _, rfl, by rw [List.take_zero]; simp [sB], Below.refl _ _⟩
                  case round => as_aux_lemma =>
                    obtain ⟨k, hk, rfl, rfl, hB⟩ := hrel
                    have HB8 := Lib.hid (below_two' HB7.out hB)
                    have HBB8 := Lib.hid (HBB7.out.keep hB)
                    have HBc := Lib.hid hB
                    have hpre : (l6 ++ (P.2.2.2.2.take k).flatMap encPair).length ≤ 1000000 := by rw [hl6e, hl3e]; exact Nat.le_trans (pre_pair P k) HSM.out
                    obtain ⟨l7, hl7⟩ : ∃ l7, l7 = l6 ++ (P.2.2.2.2.take k).flatMap encPair := ⟨_, rfl⟩
                    rw [← hl7] at hpre ⊢
                    have hp7 := sz_le hpre
                    have HL7 := Lib.hid hl7
                    simp only [sB]
                    obtain ⟨q0, q1, q2, q3, q4, -⟩ := HBB8.out
                    clear hpre hl7
                    by_cases hlt : k < P.2.2.2.2.length
                    · obtain ⟨b3, o3, hA⟩ := Arr.head HP.out.pairs hlt
                      have hg := HP.out.pairs.keep HB8.out
                      rw [hA] at hg q4
                      have z0 := Arr.at (j := 0) hg hlt rfl
                      have z1 := Arr.at (j := 1) hg hlt rfl
                      obtain ⟨⟨x0, x1⟩, hx⟩ : ∃ x, x = P.2.2.2.2.getD k dS := ⟨_, rfl⟩
                      have hwx := HW.out.2.2.2.2 _ (getD_mem dS hlt)
                      rw [← hx] at hwx
                      simp only [← hx, Nat.add_zero] at z0 z1
                      have HSN := Lib.hid (take_snoc encPair P.2.2.2.2 dS hlt)
                      rw [← hx] at HSN
                      obtain ⟨wx0, wx1⟩ := hwx
                      have HC0 := Lib.hid (fun W => str_one x0 W wx0)
                      have HC1 := Lib.hid (fun W => str_one x1 W wx1)
                      simp only [sB] at HC0 HC1
                      have s2 : ¬ 9223372036854775807 < (bytesL l7).size + 2 := by omega
                      have ii0 : (0 : Int) ≤ (k : Int) := Int.natCast_nonneg _
                      have ii1 : (k : Int) < (P.2.2.2.2.length : Int) := by omega
                      clear hg hx hB wx0 wx1 hA q0 q1 q2 q3
                      go_wp2_with fail
                      go_region_held3 (fun w' => w'.cell? ⟨w.heap.size, 4, none⟩ = some (.slice (some ⟨b3, o3, none⟩) P.2.2.2.2.length L.c4) ∧ w'.cell? ⟨b3, o3 + k * 2, none⟩ = some (.int .u8 x0) ∧ w'.cell? ⟨b3, o3 + k * 2 + 1, none⟩ = some (.int .u8 x1))
                        (first | exact ⟨q4, z0, z1⟩ | go_keep)
                        (first
                          | (go_at_call 26
                             (with_reducible refine (HC0.out _).mono ?_)
                             rintro e wn ⟨rfl, hB⟩
                             have q4 := by first | exact kept' q4 hB | exact keptd q4 hB
                             have z0 := by first | exact kept' z0 hB | exact keptd z0 hB
                             have z1 := by first | exact kept' z1 hB | exact keptd z1 hB
                             have HBc := by first | exact Lib.hid (HBc.out.trans (hB.mono HBc.out.size)) | exact Lib.hid (HBc.out.drew.trans (hB.mono HBc.out.size))
                             clear hB)
                          | (go_at_call 26
                             (with_reducible refine (HC1.out _).mono ?_)
                             rintro e wn ⟨rfl, hB⟩
                             have q4 := by first | exact kept' q4 hB | exact keptd q4 hB
                             have z0 := by first | exact kept' z0 hB | exact keptd z0 hB
                             have z1 := by first | exact kept' z1 hB | exact keptd z1 hB
                             have HBc := by first | exact Lib.hid (HBc.out.trans (hB.mono HBc.out.size)) | exact Lib.hid (HBc.out.drew.trans (hB.mono HBc.out.size))
                             clear hB))
                      go_wp2_with fail
                      all_goals
                        go_roundw
                        case rel => exact ⟨k + 1, by omega, by go_num, by simp only [bytesL_append, HSN.out, HL7.out, sB]; simp [encPair], by first | exact HBc.out | exact HBc.out.drew⟩
                        case measure => simp [intOf]; omega
                    · obtain rfl : k = P.2.2.2.2.length := by omega
                      rw [List.take_length] at HL7
                      have HEQ : Hid (l7 = enc P) := by
                        show _ = _
                        rw [HL7.out, hl6e, hl3e]
                        rfl
                      clear hB
                      go_wp2_with fail
                      refine bodyPost_ret (v := .tuple #[.string (bytesL l7), .int .i64 0, .bool true]) (by simp [results, Tryd.results13, go_sem]) rfl (BytesP.good HE3.out HEQ.out HB8.out)
end Go.Proofs.YtkgkjkghdllkhaaDoor
