/-
  paths.reached's closure: rounds that follow links, until one finds no more.
-/
import Derived.Test.YtjiikhfeacgjjaaLnk
import Derived.Laws.CopyOwn
namespace Go.Proofs.Ytjiikhfeacgjjaa
open Go.RowKit

/-- What the closure is laid over. -/
structure FolE (bn bf bl bw g n N : Nat) (K : FuncId) (cap : Array Value) (R : Nat → Nat → Bool) (W : World) : Prop where
  hn : W.cell? ⟨bn, 0, none⟩ = some (.int .i64 n)
  hf : W.cell? ⟨bf, 0, none⟩ = some (.slice (some ⟨g, 0, none⟩) n N)
  hl : W.cell? ⟨bl, 0, none⟩ = some (.func (.func K) #[] cap)
  hw : W.cell? ⟨bw, 0, none⟩ = some (.func (.func 42) #[] #[.pointer (some ⟨bn, 0, none⟩), .pointer (some ⟨bf, 0, none⟩), .pointer (some ⟨bl, 0, none⟩), .pointer (some ⟨bw, 0, none⟩)])
  nn : bn ≠ g
  nf : bf ≠ g
  nl : bl ≠ g
  nw : bw ≠ g
  link : ∀ W1, Only g W.heap.size W W1 → ∀ a b : Nat, a < n → b < n → Calls Try.prog K (#[.int .i64 a, .int .i64 b] ++ cap) W1 fun e w' => e = .returned (.bool (R a b)) ∧ Below W1.heap.size W1 w'
theorem FolE.keep {bn bf bl bw g n N : Nat} {K : FuncId} {cap : Array Value} {R : Nat → Nat → Bool} {W W' : World} (h : FolE bn bf bl bw g n N K cap R W) (hB : Only g W.heap.size W W') : FolE bn bf bl bw g n N K cap R W' :=
  ⟨hB.kept h.hn h.nn, hB.kept h.hf h.nf, hB.kept h.hl h.nl, hB.kept h.hw h.nw, h.nn, h.nf, h.nl, h.nw, fun W1 hB1 => h.link W1 (hB.two hB1)⟩
/-- What it leaves. -/
def FolP (g n N : Nat) (R : Nat → Nat → Bool) (S : Nat → Prop) (f : Nat → Bool) (W : World) (e : Ending) (w' : World) : Prop :=
  e = .returned (.tuple #[]) ∧ ∃ f' : Nat → Bool, w'.rowIs g 4 N (fun i => .bool (f' i)) ∧ Only g W.heap.size W w' ∧ (∀ i, f i = true → f' i = true) ∧ (∀ i, f' i = true → S i) ∧ (∀ a, a < n → f' a = true → ∀ b, b < n → R a b = true → f' b = true) ∧ ∀ i, n ≤ i → f' i = f i
/-- What a round knows, behind k partitions. -/
structure FolI (g n N : Nat) (R : Nat → Nat → Bool) (f d : Nat → Bool) (h : Nat → Bool) (W w : World) : Prop where
  only : Only g W.heap.size W w
  row : w.rowIs g 4 N fun i => .bool (h i)
  old : w.rowIs W.heap.size 4 n fun i => .bool (f i)
theorem FolI.keep {g n N : Nat} {R : Nat → Nat → Bool} {f d h : Nat → Bool} {W w w' : World} (hI : FolI g n N R f d h W w) (hB : Below w.heap.size w w') : FolI g n N R f d h W w' :=
  ⟨hI.only.then hB, hI.row.of_block (hB.block _ hI.row.lt), hI.old.of_block (hB.block _ hI.old.lt)⟩
theorem FolI.congr {g n N : Nat} {R : Nat → Nat → Bool} {f d h h' : Nat → Bool} {W w : World} (hI : FolI g n N R f d h W w) (e : ∀ i, h i = h' i) : FolI g n N R f d h' W w :=
  ⟨hI.only, hI.row.congr fun i _ => by rw [e i], hI.old⟩
theorem FolI.set {g n N : Nat} {R : Nat → Nat → Bool} {f d h : Nat → Bool} {W w : World} (hI : FolI g n N R f d h W w) (hg : g < W.heap.size) (j : Nat) (v : Bool) : FolI g n N R f d (fun i => if i = j then v else h i) W (w.setCell ⟨g, j, none⟩ (.bool v)) :=
  ⟨hI.only.set _, (hI.row.set j (.bool v)).congr fun i _ => by split <;> rfl, hI.old.setOther (by simp; omega) _⟩
theorem copied {n : Nat} {f : Nat → Bool} {W : World} {e : Nat} (h : W.heap[e]? = some (.cells (splice (madeCells #[.bool false] n).toList 0 ((List.range n).map fun i => Value.bool (f i))).toArray 4 (0, 0))) : W.rowIs e 4 n fun i => .bool (f i) := by
  refine ⟨_, h, ?_, fun i hi => ?_⟩
  · simp [splice, size_madeCells]
  · simp [splice, size_madeCells, hi]

set_option maxHeartbeats 8000000 in
set_option maxRecDepth 100000 in
theorem follow_any (bn bf bl bw g n N : Nat) (K : FuncId) (cap : Array Value) (R : Nat → Nat → Bool) (S : Nat → Prop) (hnN : n ≤ N) (hn : n ≤ 256) (hK : Enters K) (hS : ∀ a b, R a b = true → S a → S b) :
    ∀ (m : Nat) (f d : Nat → Bool) (A : Option Addr) (cd : Nat) (W : World), miss n f < m → FolE bn bf bl bw g n N K cap R W → W.rowIs g 4 N (fun i => .bool (f i)) → Bools W A n d → (∀ b o, A = some ⟨b, o, none⟩ → b ≠ g) →
      (∀ i, f i = true → S i) → (∀ a, a < n → d a = true → ∀ b, b < n → R a b = true → f b = true) →
      Calls Try.prog 42 (#[.slice A n cd] ++ #[.pointer (some ⟨bn, 0, none⟩), .pointer (some ⟨bf, 0, none⟩), .pointer (some ⟨bl, 0, none⟩), .pointer (some ⟨bw, 0, none⟩)]) W fun e w' => FolP g n N R S f W e w' := by
  intro m
  induction m with
  | zero => exact fun f d A cd W hm => absurd hm (by omega)
  | succ m ih =>
    intro f d A cd W hm hE hr hd hA hf hdc
    have IH := Lib.hid ih
    have HE := Lib.hid hE
    have HD := Lib.hid hd
    have HA := Lib.hid hA
    have HF := Lib.hid hf
    have HDC := Lib.hid hdc
    have HM := Lib.hid hm
    have HS := Lib.hid hS
    have eg := hK
    unfold Enters at eg
    have HK := Lib.hid hK
    have hgl := hr.lt
    have k1 := hE.hn
    have k2 := hE.hf
    have hmk := fun W => run_make_row' (P := Try.prog) 31 4 (.bool false) 1 Try.underlying31 info4 rfl .i64 .i64 n (by omega) (by omega) W
    have hb1 : Below W.heap.size W (W.alloc (.cells (madeCells #[.bool false] n) 4)) := (Below.refl _ _).alloc (Nat.le_refl _) _
    have z1 := kept k1 hb1
    have z2 := kept k2 hb1
    have hrow : (W.alloc (.cells (madeCells #[.bool false] n) 4)).heap[W.heap.size]? = some (.cells (madeCells #[.bool false] n).toList.toArray 4 (0, 0)) := by rw [Array.toArray_toList]; exact heap_alloc_new _ _
    have hsrc : ∀ j v, ((List.range n).map fun i => Value.bool (f i))[j]? = some v → (W.alloc (.cells (madeCells #[.bool false] n) 4)).cell? ((⟨g, 0, none⟩ : Addr).add j) = some v := by
      intro j v hv
      have hj : j < n := by
        rcases Nat.lt_or_ge j n with h | h
        · exact h
        · rw [List.getElem?_eq_none (by simpa using h)] at hv; cases hv
      rw [List.getElem?_map, List.getElem?_range hj] at hv
      injection hv with hv
      subst hv
      have := kept (hr.cell (i := j) (by omega)) hb1
      rw [show (⟨g, 0, none⟩ : Addr).add j = ⟨g, j, none⟩ by unfold Addr.add; split <;> simp_all]
      exact this
    have HSRC := Lib.hid hsrc
    have HROW := Lib.hid hrow
    have HR := Lib.hid hr
    have HB1 := Lib.hid hb1
    have hsz4 : (Try.prog.info? 4).map (·.size) = some 1 := by kernel_rfl
    have HSZ := Lib.hid hsz4
    clear ih hE hd hA hf hdc hm hS hr hb1 hrow hsrc hsz4 hK
    go_enter Try.func42, Try.ntmps42
    go_wp2_with (with_reducible refine wpList_copy_splice rfl (.tmp 11) (.tmp 12) 31 31 rfl 4 Try.underlying31 HSZ.out (some ⟨W.heap.size, 0, none⟩) (some ⟨g, 0, none⟩) n n n N rfl rfl W.heap.size 0 (madeCells #[.bool false] n).toList 4 HROW.out ((List.range n).map fun i => Value.bool (f i)) (by simp) (fun _ => ⟨rfl, _, rfl, HSRC.out⟩) (by simp [size_madeCells]) (by simp [Value.oneCell']) W.heap.size W HB1.out (Nat.le_refl _) ?_)
    intro w2 HG2 hB2
    have HI0 : Hid (FolI g n N R f d (rnd R n f d 0) W w2) := ⟨Only.of_below hB2, (HR.out.of_block (hB2.block _ hgl)).congr fun i _ => by rw [rnd_zero], copied HG2.out⟩
    have HB2 := Lib.hid hB2
    have m1 := kept k1 hB2
    clear hB2 HG2 z1 z2 k1 k2 HROW HSRC hmk HB1 HR
    go_wp2_with fail
    go_loopw [15] (fun i wr => ∃ k : Nat, k ≤ n ∧ i = .int .i64 k ∧ FolI g n N R f d (rnd R n f d k) W wr) (fun i _ => n - (intOf i).toNat)
    case atStart => exact ⟨0, Nat.zero_le _, rfl, HI0.out⟩
    case round =>
      obtain ⟨k, hk, rfl, hI⟩ := hrel
      have HI := Lib.hid hI
      by_cases hlt : k < n
      · have c0 := hI.old.cell hlt
        obtain ⟨x, hx⟩ : ∃ x, x = f k := ⟨_, rfl⟩
        obtain ⟨y, hy⟩ : ∃ y, y = d k := ⟨_, rfl⟩
        rw [← hx] at c0
        have HX := Lib.hid hx
        have HY := Lib.hid hy
        obtain ⟨b, o, rfl⟩ := Arr.head HD.out hlt
        have c1 := hI.only.kept (Bools.cell HD.out hlt) (HA.out _ _ rfl)
        rw [← hy] at c1
        clear hI hx hy m1
        cases x
        · go_wp2_with fail
          go_roundw
          case rel => exact ⟨k + 1, by omega, by go_num, HI.out.congr fun i => (rnd_skip (by rw [← HX.out]; rfl) i).symm⟩
          case measure => simp [intOf]; omega
        · cases y
          · have e0 := HI.out.only.kept HE.out.hn HE.out.nn
            have HJ0 : Hid (FolI g n N R f d (rndI R n f d k 0) W wr) := HI.out.congr fun i => (rndI_zero R n f d k i).symm
            go_wp2_with fail
            go_loopw [30] (fun i wr => ∃ j : Nat, j ≤ n ∧ i = .int .i64 j ∧ FolI g n N R f d (rndI R n f d k j) W wr) (fun i _ => n - (intOf i).toNat)
            case atStart => exact ⟨0, Nat.zero_le _, rfl, HJ0.out⟩
            case round =>
              obtain ⟨j, hj, rfl, hI⟩ := hrel
              have HJ := Lib.hid hI
              by_cases hjt : j < n
              · have hjN : j < N := by omega
                have r0 := hI.row.cell hjN
                have rf := hI.row.frozen j
                have hJr := hI.row
                have HJR := Lib.hid hJr
                have e1 := hI.only.kept HE.out.hf HE.out.nf
                have e2 := hI.only.kept HE.out.hl HE.out.nl
                obtain ⟨v, hv⟩ : ∃ v, v = rndI R n f d k j j := ⟨_, rfl⟩
                rw [← hv] at r0
                have HV := Lib.hid hv
                have hgw := hI.row.lt
                have i0 : (0 : Int) ≤ (j : Int) := Int.natCast_nonneg _
                have i1 : (j : Int) < (n : Int) := by omega
                clear hI hv e0 hJr
                cases v
                · obtain ⟨q, hq⟩ : ∃ q, q = R k j := ⟨_, rfl⟩
                  have HC := Lib.hid (fun W1 hB => HE.out.link W1 (HJ.out.only.then hB) k j hlt hjt)
                  rw [← hq] at HC
                  have HQ := Lib.hid hq
                  clear hq
                  go_wp2_with fail
                  go_region_law ((
                      go_simp
                      refine (HC.out _ (by repeat (first | exact Below.refl _ _ | refine Below.drew ?_))).mono ?_
                      rintro e w3 ⟨rfl, hB⟩
                      have hB3 : Below wr.heap.size wr w3 := below_two (by repeat (first | exact Below.refl _ _ | refine Below.drew ?_)) hB
                      have e1' := kept e1 hB3
                      have e2' := kept e2 hB3
                      have r0' := kept r0 hB3
                      have rf' : w3.frozen? ⟨g, j, none⟩ = false := (hB3.frozen (p := ⟨g, j, none⟩) hgw).trans rf
                      have HB3 := Lib.hid hB3
                      clear hB hB3))
                  all_goals
                    go_wp2_with fail
                    go_roundw
                    case rel =>
                      have h1 := ((HJ.out.keep HB3.out).set hgl j q).congr (h' := rndI R n f d k (j + 1)) fun i => by rw [rndI_succ, ← HV.out, ← HQ.out]; rfl
                      refine ⟨j + 1, by omega, by go_num, ?_⟩
                      first | exact h1 | exact h1.keep (Below.refl _ _).drew
                    case measure => simp [intOf]; omega
                · have e1' : (wr.setCell ⟨g, j, none⟩ (.bool true)).cell? ⟨bf, 0, none⟩ = some (.slice (some ⟨g, 0, none⟩) n N) := (World.cell?_setCell_other _ _ _ _ (fun e => by injection e with e1 _ _; exact HE.out.nf e1.symm)).trans e1
                  have r0' : (wr.setCell ⟨g, j, none⟩ (.bool true)).cell? ⟨g, j, none⟩ = some (.bool true) := ((HJR.out.set j (.bool true)).cell hjN).trans (by simp)
                  go_wp2_with fail
                  go_region
                  all_goals
                    go_wp2_with fail
                    go_roundw
                    case rel =>
                      have h1 := (HJ.out.set hgl j true).congr (h' := rndI R n f d k (j + 1)) fun i => by rw [rndI_succ, ← HV.out]; simp
                      refine ⟨j + 1, by omega, by go_num, ?_⟩
                      first | exact h1 | exact h1.keep (Below.refl _ _).drew
                    case measure => simp [intOf]; omega
              · obtain rfl : n = j := by omega
                clear hI hj hjt e0
                go_wp2_with fail
                go_roundw
                case rel => exact ⟨k + 1, by omega, by go_num, HJ.out.congr fun i => (rnd_take (by rw [← HX.out, ← HY.out]; rfl) i).symm⟩
                case measure => simp [intOf]; omega
          · go_wp2_with fail
            go_roundw
            case rel => exact ⟨k + 1, by omega, by go_num, HI.out.congr fun i => (rnd_skip (by rw [← HX.out, ← HY.out]; rfl) i).symm⟩
            case measure => simp [intOf]; omega
      · obtain rfl : n = k := by omega
        have e1 := hI.only.kept HE.out.hf HE.out.nf
        have HEQ := Lib.hid (equal_any (some ⟨g, 0, none⟩) (some ⟨W.heap.size, 0, none⟩) N n n n (rnd R n f d n) f wr (Bools.of_row hI.row hnN) (Bools.of_row hI.old (Nat.le_refl _)) (by omega) (by omega))
        rw [decide_eq_true rfl, Bool.true_and] at HEQ
        have hq : ∃ q, q = eqU n (rnd R n f d n) f := ⟨_, rfl⟩
        obtain ⟨q, hq⟩ := hq
        rw [← hq] at HEQ
        have HQ := Lib.hid hq
        clear hI hq hk hlt m1
        go_wp2_with fail
        refine HEQ.out.mono ?_
        rintro e w3 ⟨rfl, hB⟩
        have h3 := HI.out.keep hB
        have HI3 := Lib.hid h3
        have e2 := h3.only.kept HE.out.hw HE.out.nw
        clear hB h3 e1
        cases q
        · obtain ⟨j, hj, hne⟩ : ∃ j, j < n ∧ rnd R n f d n j ≠ f j := by
            refine Classical.byContradiction fun h => ?_
            have : eqU n (rnd R n f d n) f = true := eqU_yes fun i hi => Classical.byContradiction fun h' => h ⟨i, hi, h'⟩
            rw [← HQ.out] at this
            cases this
          have hfj : f j = false := by
            cases h : f j with
            | false => rfl
            | true => exact absurd ((rnd_mono h).trans h.symm) hne
          have hrj : rnd R n f d n j = true := by
            cases h : rnd R n f d n j with
            | true => rfl
            | false => exact absurd (h.trans hfj.symm) hne
          have hlt := miss_lt (n := n) (f := f) (g := rnd R n f d n) (fun i hi => rnd_mono hi) hj hfj hrj
          have HREC := Lib.hid (IH.out (rnd R n f d n) f (some ⟨W.heap.size, 0, none⟩) n w3 (by have := HM.out; omega) (HE.out.keep HI3.out.only) HI3.out.row (Bools.of_row HI3.out.old (Nat.le_refl _)) (fun b o e => by injection e with e; injection e with e1 _ _; omega) (fun i hi => rnd_sound HS.out HF.out hi) (rnd_next HDC.out))
          clear hne hfj hrj hlt hj
          go_wp2_with fail
          refine HREC.out.mono ?_
          rintro e w4 ⟨rfl, f', h1, h2, h3, h4, h5, h6⟩
          have HP : Hid (FolP g n N R S f W (.returned (.tuple #[])) w4) := ⟨rfl, f', h1, HI3.out.only.two h2, fun i hi => h3 i (rnd_mono hi), h4, h5, fun i hi => (h6 i hi).trans (rnd_far hi)⟩
          clear h1 h2 h3 h4 h5 h6
          go_wp2_with fail
          go_end0
          exact HP.out
        · have hqq := eqU_iff.1 HQ.out.symm
          have hcl := rnd_closed HDC.out hqq
          have HP : Hid (FolP g n N R S f W (.returned (.tuple #[])) w3) := ⟨rfl, rnd R n f d n, HI3.out.row, HI3.out.only, fun i hi => rnd_mono hi, fun i hi => rnd_sound HS.out HF.out hi, fun a ha hfa b hb hab => by
            rw [hqq b hb]
            rw [hqq a ha] at hfa
            exact hcl a ha hfa b hb hab, fun i hi => rnd_far hi⟩
          clear hqq hcl
          go_wp2_with fail
          go_end0
          exact HP.out
end Go.Proofs.Ytjiikhfeacgjjaa
