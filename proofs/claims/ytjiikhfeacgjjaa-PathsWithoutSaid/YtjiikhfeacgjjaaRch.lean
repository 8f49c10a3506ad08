/-
  paths.reached: what is reached from a partition by links.
-/
import Derived.Test.YtjiikhfeacgjjaaFol
import Derived.Laws.EntriesVeiled
namespace Go.Proofs.Ytjiikhfeacgjjaa
open Go.RowKit

theorem enters42 : Enters 42 := enters_of Try.func42 (by kernel_rfl) rfl
/-- What reached leaves. -/
def RchP (n N t : Nat) (R : Nat → Nat → Bool) (S : Nat → Prop) (W : World) (e : Ending) (w' : World) : Prop :=
  ∃ (g : Nat) (f : Nat → Bool), e = .returned (.slice (some ⟨g, 0, none⟩) N N) ∧ Bools w' (some ⟨g, 0, none⟩) N f ∧ Below W.heap.size W w' ∧ f t = true ∧ (∀ i, f i = true → S i) ∧ (∀ a, a < n → f a = true → ∀ b, b < n → R a b = true → f b = true)

theorem three_cells (w : World) (a b c : Value) (ta tb tc : TypeId) :
    (((w.alloc (.cells #[a] ta)).alloc (.cells #[b] tb)).alloc (.cells #[c] tc)).cell? ⟨w.heap.size, 0, none⟩ = some a ∧ (((w.alloc (.cells #[a] ta)).alloc (.cells #[b] tb)).alloc (.cells #[c] tc)).cell? ⟨w.heap.size + 1, 0, none⟩ = some b ∧ (((w.alloc (.cells #[a] ta)).alloc (.cells #[b] tb)).alloc (.cells #[c] tc)).cell? ⟨w.heap.size + 1 + 1, 0, none⟩ = some c := by
  have h1 : (w.alloc (.cells #[a] ta)).heap.size = w.heap.size + 1 := by simp
  have h2 : ((w.alloc (.cells #[a] ta)).alloc (.cells #[b] tb)).heap.size = w.heap.size + 1 + 1 := by simp
  refine ⟨?_, ?_, ?_⟩
  · rw [World.cell?_alloc_lt _ _ _ (by simp; omega), World.cell?_alloc_lt _ _ _ (by simp), World.cell?_alloc_at _ _ _ _ rfl]; rfl
  · rw [World.cell?_alloc_lt _ _ _ (by simp), World.cell?_alloc_at _ _ _ _ h1.symm]; rfl
  · rw [World.cell?_alloc_at _ _ _ _ h2.symm]; rfl
theorem made_row (N t : Nat) (w : World) : (w.alloc (.cells ((madeCells #[.bool false] N).setIfInBounds t (.bool true)) 4)).rowIs w.heap.size 4 N fun i => .bool (decide (i = t)) := by
  have h := World.rowIs_alloc w ((madeCells #[.bool false] N).setIfInBounds t (.bool true)) 4 (fun i => .bool (decide (i = t))) fun i hi => by
    simp only [Array.size_setIfInBounds, size_madeCells] at hi
    rw [Array.getElem?_setIfInBounds]
    by_cases e : t = i
    · subst e
      simp [size_madeCells]; omega
    · rw [if_neg e, decide_eq_false (fun h => e h.symm)]
      simp [madeCells, hi, Nat.mod_one]
  simpa [size_madeCells] using h

set_option maxHeartbeats 8000000 in
set_option maxRecDepth 100000 in
theorem reached_any (P : PlanA) (L : PlanL) (t : Nat) (K : FuncId) (cap : Array Value) (R : Nat → Nat → Bool) (S : Nat → Prop) (w : World) (hl : P.2.2.1.length ≤ 140737488355328) (ht : t < P.2.2.1.length) (hK : Enters K) (hS : ∀ a b, R a b = true → S a → S b) (h0 : S t)
    (hlk : ∀ W1, Below w.heap.size w W1 → ∀ a b : Nat, a < min P.2.2.1.length 256 → b < min P.2.2.1.length 256 → Calls Try.prog K (#[.int .i64 a, .int .i64 b] ++ cap) W1 fun e w' => e = .returned (.bool (R a b)) ∧ Below W1.heap.size W1 w') :
    Calls Try.prog 29 #[planV P L, .int .i64 t, .func (.func K) #[] cap] w fun e w' => RchP (min P.2.2.1.length 256) P.2.2.1.length t R S w e w' := by
  have HN := Lib.hid (fun W => named_any P L W hl)
  obtain ⟨fr, cs, ps, hs, rs⟩ := P
  obtain ⟨A1, c1, A2, c2, A3, c3, A4, c4⟩ := L
  simp only [planV] at *
  obtain ⟨N, hN⟩ : ∃ N, N = ps.length := ⟨_, rfl⟩
  obtain ⟨n, hn⟩ : ∃ n, n = min N 256 := ⟨_, rfl⟩
  rw [← hN] at HN hl ht hlk ⊢
  rw [← hn] at HN hlk ⊢
  have n0 : n ≤ 256 := by omega
  have n1 : n ≤ N := by omega
  clear hN hn
  obtain ⟨w0, hw0⟩ : ∃ w0, w0 = (w.alloc (.cells #[.int .u16 fr, .slice A1 cs.length c1, .slice A2 N c2, .slice A3 hs.length c3, .slice A4 rs.length c4] 28)).alloc (.cells #[.func (.func K) #[] cap] 65) := ⟨_, rfl⟩
  have hb0 : Below w.heap.size w w0 := by rw [hw0]; exact ((Below.refl _ _).alloc (Nat.le_refl _) _).alloc (by simp) _
  have hs0 : w0.heap.size = w.heap.size + 1 + 1 := by rw [hw0]; simp
  have hpb : PBn w0 w.heap.size fr A1 cs.length c1 A2 N c2 A3 hs.length c3 A4 rs.length c4 := by rw [hw0]; exact (PBn.new w fr A1 cs.length c1 A2 N c2 A3 hs.length c3 A4 rs.length c4).alloc _
  have hbl : w0.cell? ⟨w.heap.size + 1, 0, none⟩ = some (.func (.func K) #[] cap) := by rw [hw0, World.cell?_alloc_at _ _ _ _ (by simp)]; rfl
  have HW0 := Lib.hid hw0
  have HB0 := Lib.hid hb0
  have HS0 := Lib.hid hs0
  have HPB := Lib.hid hpb
  have HBL := Lib.hid hbl
  have HS := Lib.hid hS
  have H0 := Lib.hid h0
  have HLK := Lib.hid hlk
  have hmkN := fun W => run_make_row' (P := Try.prog) 31 4 (.bool false) 1 Try.underlying31 info4 rfl .i64 .i64 N (by omega) (by omega) W
  have HMKN := Lib.hid hmkN
  have i0 : (0 : Int) ≤ (t : Int) := Int.natCast_nonneg _
  have i1 : (t : Int) < (N : Int) := by omega
  have hmc : (madeCells #[Value.bool false] N)[t]? = some (.bool false) := by simp [madeCells, ht, Nat.mod_one]
  have hr1 := made_row N t w0
  have hb1 : Below w0.heap.size w0 (w0.alloc (.cells ((madeCells #[.bool false] N).setIfInBounds t (.bool true)) 4)) := (Below.refl _ _).alloc (Nat.le_refl _) _
  have HR1 := Lib.hid hr1
  have HB1 := Lib.hid hb1
  clear hb0 hs0 hpb hbl hw0 hS h0 hlk hr1 hb1
  go_enter Try.func29, Try.ntmps29
  go_wp2_with fail
  refine (HN.out _).mono ?_
  rintro e w1 ⟨rfl, hB⟩
  rw [← HW0.out] at hB
  have hb01 : Below w0.heap.size w0 w1 := by
    exact HB1.out.trans (hB.mono (by simp))
  have hr2 := HR1.out.of_block (hB.block _ HR1.out.lt)
  rw [HS0.out] at hr2
  obtain ⟨k0, k1, k2, k3, k4⟩ := HPB.out.keep hb01
  have kl := kept HBL.out hb01
  have HB01 := Lib.hid hb01
  have HR2 := Lib.hid hr2
  obtain ⟨w7, hw7⟩ : ∃ w7, w7 = ((w1.alloc (.cells #[.int .i64 n] 3)).alloc (.cells #[.slice (some ⟨w.heap.size + 1 + 1, 0, none⟩) n N] 31)).alloc (.cells #[.func (.func 42) #[] #[.pointer (some ⟨w1.heap.size, 0, none⟩), .pointer (some ⟨w1.heap.size + 1, 0, none⟩), .pointer (some ⟨w.heap.size + 1, 0, none⟩), .pointer (some ⟨w1.heap.size + 1 + 1, 0, none⟩)]] 79) := ⟨_, rfl⟩
  have HW7 := Lib.hid hw7
  have hb7 : Below w1.heap.size w1 w7 := by rw [hw7]; exact (((Below.refl _ _).alloc (Nat.le_refl _) _).alloc (by simp) _).alloc (by simp; omega) _
  have hs7 : w7.heap.size = w1.heap.size + 1 + 1 + 1 := by rw [hw7]; simp
  have h3 := three_cells w1 (.int .i64 n) (.slice (some ⟨w.heap.size + 1 + 1, 0, none⟩) n N) (.func (.func 42) #[] #[.pointer (some ⟨w1.heap.size, 0, none⟩), .pointer (some ⟨w1.heap.size + 1, 0, none⟩), .pointer (some ⟨w.heap.size + 1, 0, none⟩), .pointer (some ⟨w1.heap.size + 1 + 1, 0, none⟩)]) 3 31 79
  rw [← hw7] at h3
  obtain ⟨e8, e9, e10⟩ := h3
  have hlt1 : w.heap.size + 1 + 1 < w1.heap.size := hr2.lt
  have hr7 := hr2.of_block (hb7.block _ hlt1)
  have hbw : Below w.heap.size w w7 := HB0.out.trans ((hb01.trans (hb7.mono hb01.size)).mono (by rw [HS0.out]; omega))
  have hE7 : FolE w1.heap.size (w1.heap.size + 1) (w.heap.size + 1) (w1.heap.size + 1 + 1) (w.heap.size + 1 + 1) n N K cap R w7 :=
    ⟨e8, e9, kept kl hb7, e10, by omega, by omega, by omega, by omega, fun W1 hB1 a b ha hb => HLK.out W1 (hbw.trans (hB1.below (by have := hbw.size; omega) (by omega))) a b ha hb⟩
  have hF7 : ∀ W1, Below w7.heap.size w7 W1 → W1.rowIs w7.heap.size 4 n (fun _ => .bool false) → Calls Try.prog 42 (#[.slice (some ⟨w7.heap.size, 0, none⟩) n n] ++ #[.pointer (some ⟨w1.heap.size, 0, none⟩), .pointer (some ⟨w1.heap.size + 1, 0, none⟩), .pointer (some ⟨w.heap.size + 1, 0, none⟩), .pointer (some ⟨w1.heap.size + 1 + 1, 0, none⟩)]) W1 fun e w' => FolP (w.heap.size + 1 + 1) n N R S (fun i => decide (i = t)) W1 e w' := fun W1 hB1 hr1 =>
    follow_any w1.heap.size (w1.heap.size + 1) (w.heap.size + 1) (w1.heap.size + 1 + 1) (w.heap.size + 1 + 1) n N K cap R S n1 n0 hK HS.out (miss n (fun i => decide (i = t)) + 1) (fun i => decide (i = t)) (fun _ => false) (some ⟨w7.heap.size, 0, none⟩) n W1 (by omega) (hE7.keep (Only.of_below hB1)) (hr7.of_block (hB1.block _ hr7.lt)) (Bools.of_row (f := fun _ => false) hr1 (Nat.le_refl _)) (fun b o e => by injection e with e; injection e with e1 _ _; omega) (fun i hi => (of_decide_eq_true hi : i = t) ▸ H0.out) (fun a _ h => by cases h)
  have hmk := fun W => run_make_row' (P := Try.prog) 31 4 (.bool false) 1 Try.underlying31 info4 rfl .i64 .i64 n (by omega) (by omega) W
  have HF7 : Hid (Calls Try.prog 42 #[.slice (some ⟨w7.heap.size, 0, none⟩) n n, .pointer (some ⟨w1.heap.size, 0, none⟩), .pointer (some ⟨w1.heap.size + 1, 0, none⟩), .pointer (some ⟨w.heap.size + 1, 0, none⟩), .pointer (some ⟨w1.heap.size + 1 + 1, 0, none⟩)] (w7.alloc (.cells (madeCells #[.bool false] n) 4)).drew fun e w' => FolP (w.heap.size + 1 + 1) n N R S (fun i => decide (i = t)) (w7.alloc (.cells (madeCells #[.bool false] n) 4)).drew e w') :=
    hF7 _ ((Below.refl _ _).alloc (Nat.le_refl _) _).drew (World.rowIs_made w7 (.bool false) n 4).drew
  have HBW := Lib.hid hbw
  have HS7 := Lib.hid hs7
  have z8 : (w7.alloc (.cells (madeCells #[.bool false] n) 4)).cell? ⟨w1.heap.size, 0, none⟩ = some (.int .i64 n) := kept e8 ((Below.refl _ _).alloc (Nat.le_refl _) _)
  have z10 := kept e10 ((Below.refl _ _).alloc (Nat.le_refl _) (.cells (madeCells #[.bool false] n) 4))
  clear hB hb01 hr2 hw7 hmkN hmc hb7 hs7 e9 hr7 hbw hE7 hF7 kl
  go_wp2_with fail
  rw [← HW7.out]
  go_region_held3 (fun w' => w'.cell? ⟨w1.heap.size, 0, none⟩ = some (.int .i64 n) ∧ w'.cell? ⟨w1.heap.size + 1 + 1, 0, none⟩ = some (.func (.func 42) #[] #[.pointer (some ⟨w1.heap.size, 0, none⟩), .pointer (some ⟨w1.heap.size + 1, 0, none⟩), .pointer (some ⟨w.heap.size + 1, 0, none⟩), .pointer (some ⟨w1.heap.size + 1 + 1, 0, none⟩)])) (go_keep)
    (((with_reducible refine HF7.out.mono ?_); rintro e w8 ⟨rfl, f', q1, q2, q3, q4, q5, q6⟩; have hb8 := ((Only.of_below (g := w.heap.size + 1 + 1) (((Below.refl w7.heap.size w7).alloc (Nat.le_refl _) (.cells (madeCells #[.bool false] n) 4)).drew)).trans (q2.mono (by simp))); have e8' := hb8.kept e8 (by omega); have e10' := hb8.kept e10 (by omega); have HP : Hid (RchP n N t R S w (.returned (.slice (some ⟨w.heap.size + 1 + 1, 0, none⟩) N N)) w8) := ⟨_, f', rfl, Bools.of_row q1 (Nat.le_refl _), HBW.out.trans (hb8.below HBW.out.size (by omega)), q3 t (by simp), q4, q5⟩; clear q1 q2 q3 q4 q5 q6 hb8))
  go_wp2_with fail
  go_ret
  exact HP.out
end Go.Proofs.Ytjiikhfeacgjjaa
