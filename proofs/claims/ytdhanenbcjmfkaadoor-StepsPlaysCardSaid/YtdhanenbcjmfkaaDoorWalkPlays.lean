/-
  The walk of StepsPlays.
-/
import Derived.Test.YtdhanenbcjmfkaaDoorPlaysA
namespace Go.Proofs.YtdhanenbcjmfkaaDoor
open Go.RowKit

/-- The relation of the first loop. -/
def PlayRel1 (l : List KindA) (n : Nat) (w0 : World) (ts wt i : Value) (wr : World) : Prop :=
  ∃ k ga ca gb cb B, k ≤ n ∧ i = .int .i64 ((k : Nat) : Int) ∧ ts = .slice (some ⟨ga, 0, none⟩) k ca ∧ wt = .slice (some ⟨gb, 0, none⟩) k cb ∧ Tks w0 wr k ga ca B (kL l) (tkL l) ∧
    wr.ownsRow w0.heap.size 35 6 (.slice (some ⟨gb, 0, none⟩) k cb) k (flT (tkL l) k) ∧ ga ≠ gb ∧ w0.heap.size ≤ gb ∧ gb < wr.heap.size ∧ ∀ j, j < k → gb < B j ∨ B j + szT (kL l j) ≤ gb
theorem play_start (w : World) (l : List KindA) (n : Nat) : PlayRel1 l n w (.slice (some ⟨w.heap.size, 0, none⟩) 0 0) (.slice (some ⟨w.heap.size + 1, 0, none⟩) 0 0) (.int .i64 0) ((w.alloc (.cells #[] 32)).alloc (.cells #[] 35)) := by
  have hA : Below (w.alloc (.cells #[] 32)).heap.size (w.alloc (.cells #[] 32)) ((w.alloc (.cells #[] 32)).alloc (.cells #[] 35)) := (Below.refl _ _).alloc (Nat.le_refl _) _
  refine ⟨0, _, 0, _, 0, fun _ => 0, Nat.zero_le _, rfl, rfl, rfl, (tks_nil w _ _ _).keep hA, ?_, by omega, by omega, by simp, fun j hj => absurd hj (by omega)⟩
  have := World.ownsRow_lit (base := w.heap.size) (e := 35) (size := 6) (w.alloc (.cells #[] 32)) #[] 0 (by simp) (by decide) rfl
  rw [show flT (tkL l) 0 = [] from rfl]
  simpa using this
theorem play_next {l : List KindA} {n k ga ca gb ga' ca' gb' cb' B' : Nat} {B : Nat → Nat} {w0 wr V w5 : World} (hk : k < n) (h : Tks w0 wr k ga ca B (kL l) (tkL l)) (_ : ga ≠ gb) (hgb : w0.heap.size ≤ gb) (hgl : gb < wr.heap.size) (hgB : ∀ j, j < k → gb < B j ∨ B j + szT (kL l j) ≤ gb)
    (hB' : wr.heap.size ≤ B') (hBV : Below wr.heap.size wr V) (hT : TaskAt V B' (tkL l k)) (hra : w5.ownsRow w0.heap.size 32 1 (.slice (some ⟨ga', 0, none⟩) (k + 1) ca') (k + 1) ((List.range k).map (fun j => tv (kL l j) (B j)) ++ [tv (kL l k) B']))
    (hrb : w5.ownsRow w0.heap.size 35 6 (.slice (some ⟨gb', 0, none⟩) (k + 1) cb') (k + 1) (flT (tkL l) (k + 1))) (hC : Chg (fun x => x = ga ∨ x = gb) V w5) (ha : ga' = ga ∨ V.heap.size ≤ ga') (hb : gb' = gb ∨ V.heap.size ≤ gb') (hab : ga' ≠ gb') (hla : ga' < w5.heap.size) (hlb : gb' < w5.heap.size) :
    PlayRel1 l n w0 (.slice (some ⟨ga', 0, none⟩) (k + 1) ca') (.slice (some ⟨gb', 0, none⟩) (k + 1) cb') (.int .i64 ((k : Int) + 1)) w5 := by
  have s1 := hBV.size
  have s2 := hC.size
  have hlt := hT.lt
  have hkd : (tkL l k).kind = kL l k := rfl
  rw [hkd] at hlt
  have h0 := h.bel.size
  have gla := h.glt
  have hC2 : ∀ x, x < wr.heap.size → x ≠ ga → x ≠ gb → w5.heap[x]? = wr.heap[x]? := fun x hx h1 h2 => by
    rw [hC.block x (by omega) (by omega), hBV.block x hx]
  have hT5 : TaskAt w5 B' (tkL l k) := hT.same (fun x h1 h2 => hC.block x (by rw [hkd] at h2; omega) (by omega)) s2
  have hbel : Below w0.heap.size w0 w5 := (h.bel.trans (hBV.mono h0)).trans (hC.below (fun x e => by have := h.glo; omega) (by omega))
  refine ⟨k + 1, ga', ca', gb', cb', upd B k B', by omega, by go_num, rfl, rfl, tks_mk h (by omega) hC2 hgB hB' hT5 hkd hra (by omega) hla hbel, hrb, hab, by omega, hlb, fun j hj => ?_⟩
  by_cases e : j = k
  · subst e; rw [upd_same]; omega
  · rw [upd_other e]
    have := hgB j (by omega)
    have := h.lt (j := j) (by omega)
    omega
/-- No block of S. -/
def Off (S : Nat → Prop) (A : Option Addr) : Prop := ∀ b o, A = some ⟨b, o, none⟩ → ¬ S b
theorem Off.anew {S : Nat → Prop} {A A' : Option Addr} {H : Nat} (h : Off S A) (hS : ∀ x, S x → x < H) (hA : Anew A H A') : Off S A' := fun b o e hs => by
  rcases hA with e' | ⟨G, e', hG⟩
  · exact h b o (e' ▸ e) hs
  · rw [e'] at e
    injection e with e
    injection e with e
    have := hS b hs
    omega
theorem WantAt.chg {S : Nat → Prop} {w w' : World} {A : Option Addr} {n : Nat} {t : Nat → Tk} (h : WantAt w A n t) (hC : Chg S w w') (hO : Off S A) : WantAt w' A n t := fun i hi => by
  obtain ⟨b, o, e, hc⟩ := h i hi
  exact ⟨b, o, e, fun j u hu => hC.cell (hc j u hu) (hO b o e)⟩
theorem Us.chgS {S : Nat → Prop} {w w' : World} {A : Option Addr} {n : Nat} {f : Nat → Int} (h : Us w A n f) (hC : Chg S w w') (hO : Off S A) : Us w' A n f := fun i hi => by
  obtain ⟨b, o, e, hc⟩ := h i hi
  exact ⟨b, o, e, hC.cell hc (hO b o e)⟩
theorem next_left (n : Nat) (t : Tk) (x : Int) : (t.next n x).left ≤ t.left := by
  unfold Tk.next
  by_cases h1 : t.over n = true
  · rw [if_pos h1]; exact Int.le_refl _
  · rw [if_neg h1]
    by_cases h2 : t.hot x = true
    · rw [if_pos h2]; show t.left - 1 ≤ t.left; omega
    · rw [if_neg h2]
      cases h3 : t.has
      · exact Int.le_refl _
      · exact Int.le_refl _
theorem pickI_left {m N : Nat} {s : Sy} {i : Int} (h : ∀ j, (s.l j).left ≤ 1000) : ∀ j, ((s.pickI m N i).l j).left ≤ 1000 := fun j => by
  unfold Sy.pickI
  split
  · unfold Sy.pick
    split
    · exact h j
    · show (upd s.l i.toNat _ j).left ≤ 1000
      unfold upd
      split
      · exact Int.le_trans (next_left _ _ _) (h _)
      · exact h j
  · exact h j
/-- The relation of the loop over the picks. -/
def PlayRel2 (w : World) (m : Mc) (n L : Nat) (wt lw i : Value) (wr : World) : Prop :=
  ∃ (k : Nat) (s : Sy) (c : Int) (A U : Option Addr) (cA cU : Nat), k ≤ L ∧ k ≤ 80 ∧ i = .int .i64 k ∧ wt = .slice A n cA ∧ lw = .slice U 3 cU ∧ Sys wr m s c ∧ (0 ≤ c ∧ c ≤ k) ∧ WantAt wr A n s.l ∧ Us wr U 3 s.f ∧ Off m.own A ∧ Off m.own U ∧ Below w.heap.size w wr ∧ ∀ j, (s.l j).left ≤ 1000
/-- The relation of the loop over the tasks. -/
def PlayRel3 (ww : World) (s : Sy) (n : Nat) (lf j : Value) (wr : World) : Prop := ∃ (j' m : Nat), j' ≤ n ∧ j = .int .i64 j' ∧ lf = .int .i64 (leftN s.l j') ∧ wr = ww.drewN m
theorem play_rel2 {w wr : World} {m : Mc} {n L k cA cU : Nat} {s' : Sy} {c c' : Int} {A U : Option Addr} (hk : k < L) (hk2 : k < 80) (hS : Sys wr m s' c') (hc : 0 ≤ c ∧ c ≤ k) (hq : c ≤ c' ∧ c' ≤ c + 1) (hA : WantAt wr A n s'.l) (hU : Us wr U 3 s'.f) (hO : Off m.own A ∧ Off m.own U) (hB : Below w.heap.size w wr) (hl : ∀ j, (s'.l j).left ≤ 1000) :
    PlayRel2 w m n L (.slice A n cA) (.slice U 3 cU) (.int .i64 ((k : Int) + 1)) wr :=
  ⟨k + 1, s', c', A, U, cA, cU, by omega, by omega, by go_num, rfl, rfl, hS, by omega, hA, hU, hO.1, hO.2, hB, hl⟩
theorem want_row {w w' : World} {base k g cap : Nat} {t : Nat → Tk} (h : w.ownsRow base 35 6 (.slice (some ⟨g, 0, none⟩) k cap) k (flT t k)) (hB : Below w.heap.size w w') (_ : g < w.heap.size) : WantAt w' (some ⟨g, 0, none⟩) k t := fun i hi => ⟨g, 0, rfl, fun j u hu => by
  have hj : j < 6 := by have := (List.getElem?_eq_some_iff.1 hu).1; simpa [dC] using this
  rw [Nat.zero_add]
  refine kept ?_ hB
  rw [World.ownsRow.cellAt h (i * 6 + j) (by omega), flT_get t k i j hi hj]
  exact hu⟩
theorem off_row {w : World} {m : Mc} {g b gb cb k : Nat} {B K : Nat → Nat} (hO : ∀ x, m.own x → x = g ∨ x = b ∨ w.heap.size ≤ x ∨ ∃ i, i < k ∧ B i ≤ x ∧ x < B i + szT (K i)) (h1 : gb < w.heap.size) (h2 : ∀ j, j < k → gb < B j ∨ B j + szT (K j) ≤ gb) (h3 : g ≠ gb ∧ b ≠ gb) (_ : cb = cb := rfl) : Off m.own (some ⟨gb, 0, none⟩) := fun x o e hx => by
  injection e with e
  injection e with e
  subst e
  rcases hO _ hx with e | e | e | ⟨i, hi, e1, e2⟩
  · omega
  · omega
  · omega
  · have := h2 i hi; omega
theorem heap_drew_at {w : World} {H : Nat} {x : Option Obj} (h : w.heap[H]? = x) : w.drew.heap[H]? = x := h
/-- The first of the two appends. -/
theorem fst_app {V W1 w1 : World} {g go g' : Nat} (hN : Below V.heap.size V W1) (hC : Chg (fun x => x = g) W1 w1) (hg : g' = g ∨ W1.heap.size ≤ g') (hl : g' < w1.heap.size) (hgo : go < V.heap.size) (hne : g ≠ go) :
    Chg (fun x => x = g ∨ x = go) V w1 ∧ (g' = g ∨ V.heap.size ≤ g') ∧ g' < w1.heap.size ∧ w1.heap[go]? = V.heap[go]? := by
  have := hN.size
  refine ⟨(Chg.of_below hN).trans (hC.mono fun x e => .inl e), by omega, hl, ?_⟩
  rw [hC.block go (by omega) (fun e => hne e.symm), hN.block go hgo]
/-- The second one. -/
theorem snd_app {V w1 W2 w2 : World} {g go g' go' : Nat} (h1 : Chg (fun x => x = go ∨ x = g) V w1) (hgo : go' = go ∨ V.heap.size ≤ go') (hlo : go' < w1.heap.size) (hN : Below w1.heap.size w1 W2) (hC : Chg (fun x => x = g) W2 w2) (hg : g' = g ∨ W2.heap.size ≤ g') (hgV : g < V.heap.size) (hne : g ≠ go) :
    Chg (fun x => x = go ∨ x = g) V w2 ∧ (g' = g ∨ V.heap.size ≤ g') ∧ g' ≠ go' ∧ go' < w2.heap.size ∧ w2.heap[go']? = w1.heap[go']? := by
  have s1 := h1.size
  have s2 := hN.size
  have s3 := hC.size
  refine ⟨(h1.trans (Chg.of_below hN)).trans (hC.mono fun x e => .inr e), by omega, by omega, by omega, ?_⟩
  rw [hC.block go' (by omega) (by omega), hN.block go' hlo]
set_option maxHeartbeats 8000000 in
set_option maxRecDepth 100000 in
theorem walk_plays (A P : Option Addr) (ca L cp : Nat) (l : List KindA) (q : Nat → Int) (w : World) (hG : GOk w) (hA : KindsAt w A l) (hwf : ∀ y ∈ l, WfKind y) (hP : ArgN .i64 w.heap.size w P L q) (hn : l.length ≤ 1000000000000000) (_ : L ≤ 1000000000000000) :
    Calls Tryd.prog 3 #[.slice A l.length ca, .slice P L cp] w fun e w' => e = .returned (.bool true) ∧ Below w.heap.size w w' := by
  have HG := Lib.hid hG
  have HA := Lib.hid hA
  have HWF := Lib.hid hwf
  have HP := Lib.hid hP
  obtain ⟨n, hnn⟩ : ∃ n, n = l.length := ⟨_, rfl⟩
  rw [← hnn] at hn ⊢
  have HN := Lib.hid hnn
  clear hG hA hwf hP hnn
  by_cases h6 : 6 < n
  · have h6i : (6 : Int) < (n : Int) := by omega
    go_enter Tryd.func3, Tryd.ntmps3
    go_wp2_with fail
    with_reducible refine (new_one 3 (by omega) (by omega) 3 rfl _).mono ?_
    rintro e w1 ⟨g1, b1, rfl, hM1, hg1, hb1, hB1⟩
    have HB1 := Lib.hid hB1
    clear hM1 hg1 hb1 hB1
    go_wp2_with fail
    with_reducible refine (awake_any _ (HG.out.keep HB1.out)).mono ?_
    rintro e w2 ⟨rfl, hB2⟩
    have HB2 := Lib.hid (below_two HB1.out hB2)
    clear hB2
    go_wp2_with fail
    with_reducible refine (awake_any _ (HG.out.keep HB2.out)).mono ?_
    rintro e w3 ⟨rfl, hB3⟩
    have HB3 := Lib.hid (below_two HB2.out hB3)
    clear hB3
    go_wp2_with fail
    go_ret
    exact ⟨rfl, HB3.out⟩
  have h6i : ¬ (6 : Int) < (n : Int) := by omega
  have h6' : n ≤ 6 := by omega
  clear h6
  go_enter Tryd.func3, Tryd.ntmps3
  go_wp2_with fail
  with_reducible refine (new_one 3 (by omega) (by omega) 3 rfl _).mono ?_
  rintro e w1 ⟨g1, b1, rfl, hM1, hg1, hb1, hB1⟩
  have HBa := Lib.hid (base_new HG.out hM1 hg1 hb1 hB1)
  clear hM1 hg1 hb1 hB1
  go_wp2_with fail
  with_reducible refine (awake_any _ HBa.out.gok).mono ?_
  rintro e w3 ⟨rfl, hB3⟩
  have HBb := Lib.hid (HBa.out.keep hB3)
  clear hB3
  go_wp2_with fail
  go_loopw [7, 8, 9] (fun ts wt i wr => PlayRel1 l n w3 ts wt i wr) (fun _ _ i _ => n - (intOf i).toNat)
  case atStart => exact play_start w3 l n
  case round =>
    obtain ⟨k, ga, cpa, gb, cpb, B, hk, rfl, rfl, rfl, hTk, hrb, hne, hgb, hgl, hgB⟩ := hrel
    have HTk := Lib.hid hTk
    have HRB := Lib.hid hrb
    have HGB := Lib.hid (And.intro hne (And.intro hgb (And.intro hgl hgB)))
    clear hTk hrb hgB hne
    by_cases hlt : k < n
    · have hkl : k < l.length := by rw [← HN.out]; exact hlt
      obtain ⟨b, o, rfl⟩ := HA.out.head hkl
      have hAr := Arr.keep HA.out (HBb.out.bel.trans (HTk.out.bel.mono HBb.out.bel.size))
      obtain ⟨⟨y0, y1, y2⟩, hy⟩ : ∃ y, y = l.getD k dK := ⟨_, rfl⟩
      have hw := HWF.out _ (getD_mem dK hkl)
      rw [← hy] at hw
      have HYW := Lib.hid hw.1
      have z0 := hAr.at (j := 0) hkl rfl
      have z1 := hAr.at (j := 1) hkl rfl
      have z2 := hAr.at (j := 2) hkl rfl
      simp only [← hy, Nat.add_zero] at z0 z1 z2
      have HTT : Hid (tkL l k = tk0 (kindT y0) y1 (capT y2) ∧ kL l k = kindT y0) := Lib.hid (by unfold tkL kL; rw [← hy]; exact ⟨rfl, rfl⟩)
      have hk0 : (0 : Int) ≤ (k : Int) := by omega
      have hk1 : (k : Int) < (n : Int) := by omega
      clear hw hy hAr hkl
      go_wp2_with fail
      with_reducible refine (task_any y0 y1 y2 _ HYW.out).mono ?_
      rintro e w4 ⟨B1, he, hb1, hT1, hBn1⟩
      simp only [dV, tk0] at he
      subst he
      have HTK1 := Lib.hid (And.intro hb1 hT1)
      have HBT1 := Lib.hid hBn1
      clear hb1 hT1 hBn1 z0 z1 z2
      go_wp2_with fail
      have hVB : Below w4.heap.size w4 (w4.alloc (.cells #[.int .i64 (kindT y0), .int .i64 y1, .int .i64 (capT y2), .bool false, .int .u32 0, .bool false] 35)) := (Below.refl _ _).alloc (Nat.le_refl _) _
      have m0 : (w4.alloc (.cells #[.int .i64 (kindT y0), .int .i64 y1, .int .i64 (capT y2), .bool false, .int .u32 0, .bool false] 35)).cell? ⟨w4.heap.size, 0, none⟩ = some (.int .i64 (kindT y0)) := al_new _ _ _ 0 _ rfl rfl
      have m1 : (w4.alloc (.cells #[.int .i64 (kindT y0), .int .i64 y1, .int .i64 (capT y2), .bool false, .int .u32 0, .bool false] 35)).cell? ⟨w4.heap.size, 1, none⟩ = some (.int .i64 y1) := al_new _ _ _ 1 _ rfl rfl
      have m2 : (w4.alloc (.cells #[.int .i64 (kindT y0), .int .i64 y1, .int .i64 (capT y2), .bool false, .int .u32 0, .bool false] 35)).cell? ⟨w4.heap.size, 2, none⟩ = some (.int .i64 (capT y2)) := al_new _ _ _ 2 _ rfl rfl
      have m3 : (w4.alloc (.cells #[.int .i64 (kindT y0), .int .i64 y1, .int .i64 (capT y2), .bool false, .int .u32 0, .bool false] 35)).cell? ⟨w4.heap.size, 3, none⟩ = some (.bool false) := al_new _ _ _ 3 _ rfl rfl
      have m4 : (w4.alloc (.cells #[.int .i64 (kindT y0), .int .i64 y1, .int .i64 (capT y2), .bool false, .int .u32 0, .bool false] 35)).cell? ⟨w4.heap.size, 4, none⟩ = some (.int .u32 0) := al_new _ _ _ 4 _ rfl rfl
      have m5 : (w4.alloc (.cells #[.int .i64 (kindT y0), .int .i64 y1, .int .i64 (capT y2), .bool false, .int .u32 0, .bool false] 35)).cell? ⟨w4.heap.size, 5, none⟩ = some (.bool false) := al_new _ _ _ 5 _ rfl rfl
      generalize hVV : (w4.alloc (.cells #[.int .i64 (kindT y0), .int .i64 y1, .int .i64 (capT y2), .bool false, .int .u32 0, .bool false] 35)) = V at *
      clear hVV
      have HVB := Lib.hid hVB
      have HBV := Lib.hid (HBT1.out.trans (hVB.mono HBT1.out.size))
      have HTV := Lib.hid (HTK1.out.2.keep hVB)
      have hsV : wr.heap.size ≤ w4.heap.size ∧ w4.heap.size < V.heap.size := ⟨HBT1.out.size, cell_lt m0⟩
      obtain ⟨hs1, hs2⟩ := hsV
      have hga := HTk.out.glt
      have hg0 := HTk.out.bel.size
      have hgn := HGB.out.1
      have hgn2 : gb ≠ ga := fun e => hgn e.symm
      have HROA := Lib.hid (ownsRow_same HTk.out.row (HBV.out.block _ HTk.out.glt))
      have HROB := Lib.hid (ownsRow_same HRB.out (HBV.out.block _ HGB.out.2.2.1))
      clear hVB
      have HMM := Lib.hid (And.intro m0 (And.intro m1 (And.intro m2 (And.intro m3 (And.intro m4 m5)))))
      go_region_held3 (fun w' => w'.cell? ⟨w4.heap.size, 0, none⟩ = some (.int .i64 (kindT y0)) ∧ w'.cell? ⟨w4.heap.size, 1, none⟩ = some (.int .i64 y1) ∧ w'.cell? ⟨w4.heap.size, 2, none⟩ = some (.int .i64 (capT y2)) ∧ w'.cell? ⟨w4.heap.size, 3, none⟩ = some (.bool false) ∧ w'.cell? ⟨w4.heap.size, 4, none⟩ = some (.int .u32 0) ∧ w'.cell? ⟨w4.heap.size, 5, none⟩ = some (.bool false)) (go_keep)
       (first
       | (refine step_app_task (V := V) rfl _ _ rfl (tv (kindT y0) B1) rfl HROA.out (by repeat (first | exact rfl | rfl | refine heap_old ?_ (by first | (simp; done) | (simp; omega) | omega))) (by first | (simp; omega) | omega) (by omega) (by rfl) _ (by rfl) (by first | (apply heap_at; first | rfl | (simp; done)) | (apply heap_past; apply heap_at; first | rfl | (simp; done))) ?_
          intro gA cA wA hRA hCA hgA hlA
          have HRA := Lib.hid hRA
          have HCA := Lib.hid hCA
          have hFA := fst_app (V := V) (by repeat (first | exact Below.refl _ _ | refine Below.drew ?_ | refine Below.alloc ?_ (by first | (simp; done) | (simp; omega) | omega) _)) hCA hgA hlA (go := gb) (by omega) (by omega)
          have HFA := Lib.hid hFA
          have HEA := Lib.hid hFA.2.2.2
          have HSA := Lib.hid hFA.1.size
          have m0 := hFA.1.cell m0 (by show ¬ (w4.heap.size = ga ∨ w4.heap.size = gb); omega)
          have m1 := hFA.1.cell m1 (by show ¬ (w4.heap.size = ga ∨ w4.heap.size = gb); omega)
          have m2 := hFA.1.cell m2 (by show ¬ (w4.heap.size = ga ∨ w4.heap.size = gb); omega)
          have m3 := hFA.1.cell m3 (by show ¬ (w4.heap.size = ga ∨ w4.heap.size = gb); omega)
          have m4 := hFA.1.cell m4 (by show ¬ (w4.heap.size = ga ∨ w4.heap.size = gb); omega)
          have m5 := hFA.1.cell m5 (by show ¬ (w4.heap.size = ga ∨ w4.heap.size = gb); omega)
          clear hRA hCA hgA hlA hFA)
       | (refine step_app_want (V := V) rfl _ _ rfl (tk0 (kindT y0) y1 (capT y2)) HROB.out (by repeat (first | exact rfl | rfl | refine heap_old ?_ (by first | (simp; done) | (simp; omega) | omega))) (by first | (simp; omega) | omega) (by omega) HTT.out.1.symm (by rfl) _ (by rfl) (by first | (apply heap_at; first | rfl | (simp; done)) | (apply heap_past; apply heap_at; first | rfl | (simp; done))) ?_
          intro gB cB wB hRB hCB hgB hlB
          have HRB := Lib.hid hRB
          have HCB := Lib.hid hCB
          have hFB := fst_app (V := V) (by repeat (first | exact Below.refl _ _ | refine Below.drew ?_ | refine Below.alloc ?_ (by first | (simp; done) | (simp; omega) | omega) _)) hCB hgB hlB (go := ga) (by omega) (by omega)
          have HFB := Lib.hid hFB
          have HEB := Lib.hid hFB.2.2.2
          have HSB := Lib.hid hFB.1.size
          have m0 := hFB.1.cell m0 (by show ¬ (w4.heap.size = gb ∨ w4.heap.size = ga); omega)
          have m1 := hFB.1.cell m1 (by show ¬ (w4.heap.size = gb ∨ w4.heap.size = ga); omega)
          have m2 := hFB.1.cell m2 (by show ¬ (w4.heap.size = gb ∨ w4.heap.size = ga); omega)
          have m3 := hFB.1.cell m3 (by show ¬ (w4.heap.size = gb ∨ w4.heap.size = ga); omega)
          have m4 := hFB.1.cell m4 (by show ¬ (w4.heap.size = gb ∨ w4.heap.size = ga); omega)
          have m5 := hFB.1.cell m5 (by show ¬ (w4.heap.size = gb ∨ w4.heap.size = ga); omega)
          clear hRB hCB hgB hlB hFB)
       | (refine step_app_task (V := V) rfl _ _ rfl (tv (kindT y0) B1) rfl HROA.out (by repeat (first | exact HEB.out | rfl | refine heap_old ?_ (by have := HSB.out; first | (simp; done) | (simp; omega) | omega))) (by have := HSB.out; first | (simp; omega) | omega) (by omega) (by rfl) _ (by rfl) (by first | (apply heap_at; first | rfl | (simp; done)) | (apply heap_past; apply heap_at; first | rfl | (simp; done)) | (rw [HCB.out.block]; (focus (first | (apply heap_at; first | rfl | (simp; done)) | (apply heap_past; apply heap_at; first | rfl | (simp; done)) | (apply heap_drew_at; apply heap_at; simp; done) | (apply heap_drew_at; apply heap_past; apply heap_at; simp; done))); all_goals first | omega | (simp; done) | (simp; omega))) ?_
          intro gA cA wA hRA hCA hgA hlA
          have HRA := Lib.hid hRA
          have HCA := Lib.hid hCA
          have hFA : Chg (fun x => x = gb ∨ x = ga) V wA ∧ (gA = ga ∨ V.heap.size ≤ gA) ∧ gA ≠ gB ∧ gB < wA.heap.size ∧ wA.heap[gB]? = wB.heap[gB]? := by
            refine snd_app HFB.out.1 HFB.out.2.1 HFB.out.2.2.1 ?_ hCA hgA ?_ ?_
            · repeat (first | exact Below.refl _ _ | refine Below.drew ?_ | refine Below.alloc ?_ (by first | (simp; done) | (simp; omega) | omega) _)
            · omega
            · omega
          have HPA := Lib.hid (And.intro hFA hlA)
          have m0 := hFA.1.cell HMM.out.1 (by show ¬ (w4.heap.size = gb ∨ w4.heap.size = ga); omega)
          have m1 := hFA.1.cell HMM.out.2.1 (by show ¬ (w4.heap.size = gb ∨ w4.heap.size = ga); omega)
          have m2 := hFA.1.cell HMM.out.2.2.1 (by show ¬ (w4.heap.size = gb ∨ w4.heap.size = ga); omega)
          have m3 := hFA.1.cell HMM.out.2.2.2.1 (by show ¬ (w4.heap.size = gb ∨ w4.heap.size = ga); omega)
          have m4 := hFA.1.cell HMM.out.2.2.2.2.1 (by show ¬ (w4.heap.size = gb ∨ w4.heap.size = ga); omega)
          have m5 := hFA.1.cell HMM.out.2.2.2.2.2 (by show ¬ (w4.heap.size = gb ∨ w4.heap.size = ga); omega)
          clear hRA hCA hgA hlA hFA)
       | (refine step_app_want (V := V) rfl _ _ rfl (tk0 (kindT y0) y1 (capT y2)) HROB.out (by repeat (first | exact HEA.out | rfl | refine heap_old ?_ (by have := HSA.out; first | (simp; done) | (simp; omega) | omega))) (by have := HSA.out; first | (simp; omega) | omega) (by omega) HTT.out.1.symm (by rfl) _ (by rfl) (by first | (apply heap_at; first | rfl | (simp; done)) | (apply heap_past; apply heap_at; first | rfl | (simp; done)) | (rw [HCA.out.block]; (focus (first | (apply heap_at; first | rfl | (simp; done)) | (apply heap_past; apply heap_at; first | rfl | (simp; done)) | (apply heap_drew_at; apply heap_at; simp; done) | (apply heap_drew_at; apply heap_past; apply heap_at; simp; done))); all_goals first | omega | (simp; done) | (simp; omega))) ?_
          intro gB cB wB hRB hCB hgB hlB
          have HRB := Lib.hid hRB
          have HCB := Lib.hid hCB
          have hFB : Chg (fun x => x = ga ∨ x = gb) V wB ∧ (gB = gb ∨ V.heap.size ≤ gB) ∧ gB ≠ gA ∧ gA < wB.heap.size ∧ wB.heap[gA]? = wA.heap[gA]? := by
            refine snd_app HFA.out.1 HFA.out.2.1 HFA.out.2.2.1 ?_ hCB hgB ?_ ?_
            · repeat (first | exact Below.refl _ _ | refine Below.drew ?_ | refine Below.alloc ?_ (by first | (simp; done) | (simp; omega) | omega) _)
            · omega
            · omega
          have HPB := Lib.hid (And.intro hFB hlB)
          have m0 := hFB.1.cell HMM.out.1 (by show ¬ (w4.heap.size = ga ∨ w4.heap.size = gb); omega)
          have m1 := hFB.1.cell HMM.out.2.1 (by show ¬ (w4.heap.size = ga ∨ w4.heap.size = gb); omega)
          have m2 := hFB.1.cell HMM.out.2.2.1 (by show ¬ (w4.heap.size = ga ∨ w4.heap.size = gb); omega)
          have m3 := hFB.1.cell HMM.out.2.2.2.1 (by show ¬ (w4.heap.size = ga ∨ w4.heap.size = gb); omega)
          have m4 := hFB.1.cell HMM.out.2.2.2.2.1 (by show ¬ (w4.heap.size = ga ∨ w4.heap.size = gb); omega)
          have m5 := hFB.1.cell HMM.out.2.2.2.2.2 (by show ¬ (w4.heap.size = ga ∨ w4.heap.size = gb); omega)
          clear hRB hCB hgB hlB hFB))
      all_goals
        go_wp2_with fail
        go_roundw
        case rel =>
          first
            | exact play_next (V := V) hlt HTk.out hgn hgb hgl HGB.out.2.2.2 HTK1.out.1 HBV.out (by rw [HTT.out.1]; exact HTV.out) (by rw [HTT.out.2]; exact ownsRow_same HRA.out HPB.out.1.2.2.2.2) HRB.out HPB.out.1.1 HFA.out.2.1 HPB.out.1.2.1 (fun e => HPB.out.1.2.2.1 e.symm) HPB.out.1.2.2.2.1 HPB.out.2
            | exact play_next (V := V) hlt HTk.out hgn hgb hgl HGB.out.2.2.2 HTK1.out.1 HBV.out (by rw [HTT.out.1]; exact HTV.out) (by rw [HTT.out.2]; exact HRA.out) (ownsRow_same HRB.out HPA.out.1.2.2.2.2) (HPA.out.1.1.mono fun x e => e.symm) HPA.out.1.2.1 HFB.out.2.1 HPA.out.1.2.2.1 HPA.out.2 HPA.out.1.2.2.2.1
        case measure => simp [intOf]; omega
    · obtain rfl : k = n := by omega
      have hmk : ∀ W, (Instr.makeSlice 42 (.int .i64 3) (.int .i64 3)).run Tryd.prog W = .ok (.slice (some ⟨W.heap.size, 0, none⟩) 3 3) (W.alloc (.cells (madeCells #[.int .u32 0] 3) 33)) := fun W => run_make_row' (P := Tryd.prog) 42 33 (.int .u32 0) 4 Tryd.underlying42 info33 rfl .i64 .i64 3 (by omega) (by omega) W
      go_wp2_with fail
      with_reducible refine (new_mach g1 _ k cpa _ _ HTk.out.vals (fun _ _ => rfl) (by omega)).mono ?_
      rintro e w4 hNM
      obtain ⟨m, rfl, rfl, hn1, hN1, hS, hBS, hO, hO2⟩ := HTk.out.sys (HBb.out.mem.keep HTk.out.bel) ⟨HBb.out.mem.ltg, HBb.out.mem.row.lt⟩ (by omega) (by omega) (HBb.out.gok.keep HTk.out.bel) HBb.out.g6 (fun _ _ => rfl) hNM
      have HW4 := Lib.hid ((HBb.out.bel.trans (HTk.out.bel.mono HBb.out.bel.size)).trans (hBS.mono (by have := HBb.out.bel.size; have := HTk.out.bel.size; omega)))
      have HNN := Lib.hid (And.intro hn1 hN1)
      have HS4 : Hid (Sys w4 m (sysL l) 0) := Lib.hid hS
      have HOW : Hid (∀ x, m.own x → w.heap.size ≤ x) := Lib.hid (fun x hx => by have := hO x hx; have := HBb.out.gW; have := HBb.out.bel.size; omega)
      have HWT := Lib.hid (want_row HRB.out hBS HGB.out.2.2.1)
      have HOF := Lib.hid (off_row (cb := cpb) hO2 HGB.out.2.2.1 HGB.out.2.2.2 (by have := HBb.out.mem.ltg; have := HBb.out.mem.row.lt; omega))
      clear hNM hn1 hN1 hS hBS hO hO2 HTk HRB
      go_wp2_with fail
      go_loopw [8, 13, 14] (fun wt lw i wr => PlayRel2 w m k L wt lw i wr) (fun _ _ i _ => 80 - (intOf i).toNat)
      case atStart =>
        have hA := (Below.refl w4.heap.size w4).alloc (Nat.le_refl _) (.cells (madeCells #[.int .u32 0] 3) 33)
        exact ⟨0, sysL l, 0, _, _, _, _, Nat.zero_le _, by omega, rfl, rfl, rfl, HS4.out.keep hA, by omega, Arr.keep HWT.out hA, Us.of_row (World.rowIs_made w4 (.int .u32 0) 3 33), HOF.out, fun b o e hs => by
          injection e with e
          injection e with e
          have := HS4.out.own_lt _ hs
          omega, HW4.out.alloc HW4.out.size _, fun j => by show capT _ ≤ 1000; have := capT_le (l.getD j dK).2.2; omega⟩
      case round =>
        obtain ⟨k2, s, c, A2, U2, cA, cU, hk1, hk2, rfl, rfl, rfl, hSy, hc, hWa, hUa, hOA, hOU, hBe, hle⟩ := hrel
        have HSY := Lib.hid hSy
        have HC := Lib.hid hc
        have HWA := Lib.hid hWa
        have HUA := Lib.hid hUa
        have HOO := Lib.hid (And.intro hOA hOU)
        have HBE := Lib.hid hBe
        have HLE := Lib.hid hle
        clear hSy hc hWa hUa hOA hOU hBe hle
        by_cases hlt2 : k2 < L
        · by_cases hlt3 : k2 < 80
          · have hPw := HP.out.keep HBE.out
            obtain ⟨bq, oq, rfl⟩ := hPw.head hlt2
            have hcell := hPw.cell hlt2
            obtain ⟨y, hy⟩ : ∃ y, y = q k2 := ⟨_, rfl⟩
            rw [← hy] at hcell
            have HY := Lib.hid hy
            clear hy hPw
            have HRP := Lib.hid (rpick_any k s y A2 U2 cA cU wr HWA.out HUA.out (by omega) (fun j _ => HLE.out j))
            go_wp2_with fail
            with_reducible refine HRP.out.mono ?_
            rintro e w5 ⟨A5, c5, U5, d5, rfl, hW5, hU5, hB5, hA5, hUn5⟩
            have HW5 := Lib.hid hW5
            have HU5 := Lib.hid hU5
            have HB5 := Lib.hid hB5
            have HO5 := Lib.hid (And.intro (HOO.out.1.anew HSY.out.own_lt hA5) (HOO.out.2.anew HSY.out.own_lt hUn5))
            have hcell := kept hcell hB5
            have hpk := pick_any m s c y w5 (HSY.out.keep hB5) (by have := HC.out; omega)
            rw [HNN.out.1, HNN.out.2] at hpk
            obtain ⟨d, hd⟩ : ∃ d, d = s.err k y := ⟨_, rfl⟩
            rw [← hd] at hpk ⊢
            have HPK := Lib.hid hpk
            have hdd : (d != d) = false := by simp
            clear hW5 hU5 hB5 hA5 hUn5 hpk hd
            go_wp2_with fail
            with_reducible refine HPK.out.mono ?_
            rintro e w6 ⟨rfl, c', q1, q2, hS6, hC6⟩
            have HS6 := Lib.hid hS6
            have HC6 := Lib.hid hC6
            have HQ6 := Lib.hid (And.intro q1 q2)
            have HW6 := Lib.hid (HW5.out.chg hC6 HO5.out.1)
            have HU6 := Lib.hid (HU5.out.chgS hC6 HO5.out.2)
            clear q1 q2 hS6 hC6 hcell
            obtain ⟨s', hs'⟩ : ∃ s', s' = s.pickI 3 k y := ⟨_, rfl⟩
            have HL6 : Hid (∀ j, (s'.l j).left ≤ 1000) := Lib.hid (by rw [hs']; exact pickI_left HLE.out)
            rw [← hs'] at HS6 HW6 HU6
            clear hs'
            have hwd := words_any m.g m.b 3 _ _ _ (by have h := HS6.out.mem; rw [HNN.out.1] at h; exact h) (by omega)
            have HWD := Lib.hid hwd
            clear hwd
            go_wp2_with fail
            with_reducible refine HWD.out.mono ?_
            rintro e w7 ⟨d1, rfl, hO7, _, hB7⟩
            have HU7 := Lib.hid (Us.of_row hO7)
            have HB7 := Lib.hid hB7
            clear hO7 hB7
            go_wp2_with fail
            with_reducible refine (same_yes _ _ 3 _ 3 _ _ HU7.out (HU6.out.keep HB7.out) (by omega)).mono ?_
            rintro e w8 ⟨rfl, hB8⟩
            have HB8 := Lib.hid (below_two HB7.out hB8)
            have HS8 := Lib.hid (HS6.out.keep HB8.out)
            have HW8 : Hid (WantAt w8 A5 k s'.l) := Lib.hid (Arr.keep HW6.out HB8.out)
            clear hB8
            go_wp2_with fail
            go_loopw [18, 19] (fun lf j wr2 => PlayRel3 w8 s' k lf j wr2) (fun _ j _ => k - (intOf j).toNat)
            case atStart => exact ⟨0, 0, Nat.zero_le _, rfl, rfl, rfl⟩
            case round =>
              obtain ⟨j, nn, hj, rfl, rfl, rfl⟩ := hrel
              have hbn := below_drewN (Below.refl w8.heap.size w8) nn
              have HSN := Lib.hid (HS8.out.keep hbn)
              have HWN : Hid (WantAt (w8.drewN nn) A5 k s'.l) := Lib.hid (Arr.keep HW8.out hbn)
              clear hbn
              by_cases hjk : j < k
              · obtain ⟨ba, oa, rfl⟩ := HW8.out.head hjk
                have hc5 := HWN.out.at (j := 5) hjk rfl
                have hw5 := HW8.out.at (j := 5) hjk rfl
                have hj0 : (0 : Int) ≤ (j : Int) := by omega
                have hjk' : (j : Int) < (k : Int) := by omega
                have HD := Lib.hid (fun N => done_at m s' c' j (w8.drewN N) (HS8.out.keep (below_drewN (Below.refl _ _) N)) (by rw [HNN.out.2]; exact hjk))
                have hle := leftN_le s'.l j
                have hL1 : leftN s'.l (j + 1) = leftN s'.l j + if (s'.l j).done then 0 else 1 := rfl
                obtain ⟨x, hx⟩ : ∃ x, x = leftN s'.l j := ⟨_, rfl⟩
                obtain ⟨dn, hdn⟩ : ∃ dn, dn = (s'.l j).done := ⟨_, rfl⟩
                rw [← hx] at hL1 hle ⊢
                rw [← hdn] at hL1 hc5 hw5
                simp only [← hdn] at HD
                have hdd2 : (dn != dn) = false := by simp
                cases dn
                all_goals
                  have HL := Lib.hid hL1
                  clear hL1 hx hdn
                  go_wp2_with fail
                  go_quiet ((go_at_call 17; first | exact quiet_add_left (HD.out _) | exact quiet_left (HD.out _)))
                  go_wp2_with fail
                  go_roundw
                  case rel => exact ⟨j + 1, _, by omega, by go_num, by rw [HL.out]; first | rfl | simp, rfl⟩
                  case measure => simp [intOf]; omega
              · obtain rfl : j = k := by omega
                have hlf := left_any m s' c' _ HSN.out
                rw [HNN.out.2] at hlf
                have hd1 := done_no m s' c' (-1) _ HSN.out (by omega)
                have hd2 := done_no m s' c' (j : Int) _ HSN.out (by rw [HNN.out.2]; omega)
                obtain ⟨x, hx⟩ : ∃ x, x = leftN s'.l j := ⟨_, rfl⟩
                rw [← hx] at hlf ⊢
                have HLF := Lib.hid hlf
                have HD1 := Lib.hid hd1
                have HD2 := Lib.hid hd2
                clear hlf hd1 hd2 hx
                go_wp2_with fail
                with_reducible refine HLF.out.mono ?_
                rintro e w' ⟨rfl, rfl⟩
                go_wp2_with fail
                with_reducible refine HD1.out.mono ?_
                rintro e w' ⟨rfl, rfl⟩
                go_wp2_with fail
                with_reducible refine HD2.out.mono ?_
                rintro e w' ⟨rfl, rfl⟩
                go_wp2_with fail
                go_roundw
                case rel => exact play_rel2 hlt2 hlt3 HSN.out HC.out HQ6.out HWN.out (HU6.out.keep (HB8.out.trans ((below_drewN (Below.refl _ _) nn).mono HB8.out.size))) HO5.out ((HBE.out.trans (HB5.out.mono HBE.out.size)).trans ((HC6.out.below HOW.out (by have := HBE.out.size; have := HB5.out.size; omega)).trans ((HB8.out.trans ((below_drewN (Below.refl _ _) nn).mono HB8.out.size)).mono (by have := HBE.out.size; have := HB5.out.size; have := HC6.out.size; omega)))) HL6.out
                case measure => simp [intOf]; omega
          · have hk80 : ¬ (k2 : Int) < 80 := by omega
            go_wp2_with fail
            go_ret
            exact ⟨rfl, HBE.out⟩
        · have hkL : ¬ (k2 : Int) < L := by omega
          go_wp2_with fail
          go_ret
          exact ⟨rfl, HBE.out⟩
end Go.Proofs.YtdhanenbcjmfkaaDoor
