/-
  Waiters of a new barrier, and their machine; a play.
-/
import Derived.Test.YtcjhbmkpfclmfaaDoorTks
namespace Go.Proofs.YtcjhbmkpfclmfaaDoor
open Go.RowKit

theorem new_one (n : Nat) (h1 : 1 ≤ n) (h2 : n ≤ 4096) (x : Int) (hx : x = n) (w : World) :
    Calls Tryd.prog 7 #[.int .i64 x] w fun e w' => ∃ g b, e = .returned (.tuple #[.pointer (some ⟨g, 0, none⟩), .int .i64 0]) ∧ MemAt w' g b n (fun _ => 0) 0 ∧ w.heap.size ≤ g ∧ w.heap.size ≤ b ∧ Below w.heap.size w w' := by
  subst hx; exact new_yes n w h1 h2
theorem six_of {w : World} (h : GOk w) : 6 ≤ w.heap.size := by
  have := (h 0 (by decide)).lt
  exact this
theorem Mc.six {w : World} {m : Mc} {s : Sy} {c : Int} (h : Sys w m s c) : ∀ k, m.own k → 6 ≤ k := Mc.own_ge h.ok h.lo
/-- The relation of the loop. -/
def TkRel (n : Nat) (R : Int) (w0 : World) (al ts i : Value) (wr : World) : Prop :=
  ∃ k ga ca gb cb B, k ≤ n ∧ i = .int .i64 ((k : Nat) : Int) ∧ al = .slice (some ⟨ga, 0, none⟩) k ca ∧ ts = .slice (some ⟨gb, 0, none⟩) k cb ∧ Tks w0 wr k ga ca gb cb B (fun _ => tk0 0 n R)
/-- What the call leaves: a machine of so many waiters, the list of them. -/
structure Made (w w' : World) (m : Mc) (n : Nat) (R : Int) (ga : Nat) : Prop where
  n2 : m.n = 2
  N1 : m.N = n
  sys : Sys w' m (sy0 n 0 R) 0
  bel : Below w.heap.size w w'
  own : ∀ x, m.own x → w.heap.size ≤ x
  ptr : ∀ i, i < m.N → w'.cell? ⟨ga, i, none⟩ = some (pt (m.B i))
  gan : ¬ m.own ga
  gal : w.heap.size ≤ ga ∧ ga < w'.heap.size
def WtsP (n : Nat) (R : Int) (w : World) (e : Ending) (w' : World) : Prop :=
  ∃ m ga ca, e = .returned (.tuple #[.pointer (some ⟨m.X, 0, none⟩), .slice (some ⟨ga, 0, none⟩) n ca]) ∧ Made w w' m n R ga
theorem made_of {w w1 wr w' : World} {n g b : Nat} {R : Int} {ga ca gb cb : Nat} {B : Nat → Nat} (hn : n ≤ 8) (hG : GOk w) (hB1 : Below w.heap.size w w1) (hg : w.heap.size ≤ g) (hb : w.heap.size ≤ b) (hM : MemAt w1 g b 2 (fun _ => 0) 0)
    (hT : Tks w1 wr n ga ca gb cb B (fun _ => tk0 0 n R)) {e : Ending} (hN : NewM g n (fun j => tv (B j)) wr e w') : ∃ m : Mc, e = .returned (.pointer (some ⟨m.X, 0, none⟩)) ∧ Made w w' m n R ga := by
  have h6 := six_of hG
  have hs1 := hB1.size
  have hBr : Below w.heap.size w wr := hB1.trans (hT.bel.mono hB1.size)
  obtain ⟨m, he, h1, h2, h3, h4, hS, hB, hO, hno⟩ := hT.sys (hM.keep hT.bel) ⟨hM.ltg, hM.row.lt⟩ (by omega) (by omega) (hG.below (by omega) hBr) (by omega) (fun _ _ => rfl) hN
  refine ⟨m, he, h2, h3, hS, hBr.trans (hB.mono hBr.size), fun x hx => ?_, fun i hi => ?_, hno, ?_⟩
  · have := hO x hx; omega
  · rw [h4]; exact kept (hT.ptr (by omega)) hB
  · have := hT.glo; have := hT.glt; have := hB.size; omega
set_option maxHeartbeats 8000000 in
set_option maxRecDepth 100000 in
theorem waiters_any (n : Nat) (R : Int) (w : World) (hG : GOk w) (h1 : 1 ≤ n) (h8 : n ≤ 8) (hR : 0 ≤ R ∧ R ≤ 1000) :
    Calls Tryd.prog 18 #[.int .i64 n, .int .i64 R] w fun e w' => WtsP n R w e w' := by
  have HG := Lib.hid hG
  have hcl : clamp R = R := by unfold clamp; omega
  have hN0 := fun W => new_ok 0 n R W (by omega) (by omega) (by omega)
  simp only [NewP, hcl] at hN0
  have HN := Lib.hid hN0
  clear hN0
  have HH : Hid (1 ≤ n ∧ n ≤ 8) := Lib.hid ⟨h1, h8⟩
  clear hG hcl hR
  go_enter Tryd.func18, Tryd.ntmps18
  go_wp2_with fail
  with_reducible refine (new_one 2 (by omega) (by omega) 2 rfl _).mono ?_
  rintro e w1 ⟨g, b, rfl, hM1, hg1, hb1, hB1⟩
  have HM1 := Lib.hid hM1
  have HI := Lib.hid (And.intro hg1 hb1)
  have HB1 := Lib.hid hB1
  clear hM1 hg1 hb1 hB1
  go_wp2_with fail
  go_loopw [8, 9, 10] (fun al ts i wr => TkRel n R w1 al ts i wr) (fun _ _ i _ => n - (intOf i).toNat)
  case atStart => exact ⟨0, _, _, _, _, _, Nat.zero_le _, rfl, rfl, rfl, tks_nil _ _⟩
  case round =>
    obtain ⟨k, ga, ca1, gb, cb, B, hk, rfl, rfl, rfl, hTk⟩ := hrel
    have HTk := Lib.hid hTk
    clear hTk
    by_cases hlt : k < n
    · go_wp2_with fail
      with_reducible refine (HN.out _).mono ?_
      rintro e w4 ⟨rfl, hT4, hB4, hz4⟩
      have HT4 := Lib.hid hT4
      have HB4 := Lib.hid hB4
      have HZ4 := Lib.hid hz4
      clear hT4 hB4 hz4
      go_wp2_with (at_builtin; refine wpList_append_pt rfl _ _ rfl (ownsRow_same HTk.out.ra (HB4.out.block _ HTk.out.glt.1)) (Nat.lt_of_lt_of_le HTk.out.glt.1 HB4.out.size) (Nat.le_trans HTk.out.bel.size HB4.out.size) (by omega) (by rfl) (by rfl) ?_)
      intro ga' ca' w5 hown5 hC5 hg5 hl5
      have HO5 := Lib.hid hown5
      have HC5 := Lib.hid hC5
      have HX5 := Lib.hid (And.intro hg5 hl5)
      clear hown5 hC5 hg5 hl5
      go_wp2_with (at_builtin; refine wpList_append_tv rfl _ _ rfl (ownsRow_same (ownsRow_same HTk.out.rb (HB4.out.block _ HTk.out.glt.2)) (HC5.out.block _ (Nat.lt_of_lt_of_le HTk.out.glt.2 HB4.out.size) (fun e => HTk.out.ne e.symm))) (Nat.lt_of_lt_of_le (Nat.lt_of_lt_of_le HTk.out.glt.2 HB4.out.size) HC5.out.size) (Nat.le_trans (Nat.le_trans HTk.out.bel.size HB4.out.size) HC5.out.size) (by omega) (by rfl) (by rfl) ?_)
      intro gb' cb' w6 hown6 hC6 hg6 hl6
      have HT6 := Lib.hid (tks_next HTk.out HB4.out HZ4.out HT4.out HO5.out HC5.out HX5.out.1 HX5.out.2 hown6 hC6 hg6 hl6)
      clear hown6 hC6 hg6 hl6
      go_wp2_with fail
      go_roundw
      case rel => exact ⟨k + 1, ga', ca', gb', cb', _, by omega, by go_num, rfl, rfl, HT6.out⟩
      case measure => simp [intOf]; omega
    · obtain rfl : k = n := by omega
      go_wp2_with fail
      with_reducible refine (new_mach g _ k cb _ _ HTk.out.vals (fun _ _ => rfl) (by omega)).mono ?_
      rintro e w7 hNM
      obtain ⟨m, rfl, hm⟩ := made_of HH.out.2 HG.out HB1.out HI.out.1 HI.out.2 HM1.out HTk.out hNM
      have HMd := Lib.hid hm
      clear hNM hm
      go_wp2_with fail
      exact bodyPost_ret (v := .tuple #[.pointer (some ⟨m.X, 0, none⟩), .slice (some ⟨ga, 0, none⟩) k ca1]) (by simp [results, Tryd.results18, go_sem]) rfl ⟨m, ga, ca1, rfl, HMd.out⟩
/-! ## A play -/

structure PlAt (w0 w : World) (F G n k : Nat) (B : Nat → Nat) (t : Tk) : Prop where
  row : w.rowIs G 80 n fun j => if j < k then tv (B j) else .nilIface
  fst : TakerAt w F t
  tk : ∀ j, j < k → TakerAt w (B j) t
  gt : ∀ j, j < k → F < B j ∧ G < B j
  sep : ∀ i j, i < j → j < k → B i < B j
  lo : w0.heap.size ≤ F ∧ F < G
  bel : Below w0.heap.size w0 w
def PlRel (w0 : World) (F G n : Nat) (t : Tk) (i : Value) (wr : World) : Prop := ∃ k B, k ≤ n ∧ i = .int .i64 ((k : Nat) : Int) ∧ PlAt w0 wr F G n k B t
theorem pl_nil {w0 w : World} {n : Nat} {t : Tk} (hT : TakerAt w w0.heap.size t) (hB : Below w0.heap.size w0 w) : PlAt w0 (w.alloc (.cells (madeCells #[.nilIface] n) 80)) w0.heap.size w.heap.size n 0 (fun _ => 0) t :=
  ⟨(World.rowIs_made w .nilIface n 80).congr fun j _ => by rw [if_neg (by omega)], hT.keep ((Below.refl _ _).alloc (Nat.le_refl _) _), fun j hj => absurd hj (by omega), fun j hj => absurd hj (by omega), fun i j _ hj => absurd hj (by omega), ⟨Nat.le_refl _, hT.lt⟩, hB.alloc hB.size _⟩
theorem pl_next {w0 w : World} {F G n k : Nat} {B : Nat → Nat} {t : Tk} (h : PlAt w0 w F G n k B t) :
    PlAt w0 ((w.alloc (.cells #[.int .i64 t.at', .int .i64 t.n, .int .i64 t.rds, .int .i64 t.ph, .int .i64 t.came, .int .i64 t.psd] 70)).setCell ⟨G, k, none⟩ (tv w.heap.size)) F G n (k + 1) (upd B k w.heap.size) t := by
  have hG := h.row.lt
  have hlo := h.lo
  have hbs := h.bel.size
  have hb : ∀ x, x ≠ G → x < w.heap.size → ((w.alloc (.cells #[.int .i64 t.at', .int .i64 t.n, .int .i64 t.rds, .int .i64 t.ph, .int .i64 t.came, .int .i64 t.psd] 70)).setCell ⟨G, k, none⟩ (tv w.heap.size)).heap[x]? = w.heap[x]? := fun x h1 h2 => by
    rw [Below.heap_setCell _ _ _ _ h1, Below.heap_alloc w _ _ h2]
  refine ⟨?_, h.fst.same (hb F (by omega) (by omega)), fun j hj => ?_, fun j hj => ?_, fun i j hij hj => ?_, hlo, ?_⟩
  · refine ((h.row.alloc _).set k _).congr fun j hj => ?_
    unfold upd
    by_cases e : j = k
    · subst e; simp
    · by_cases e2 : j < k
      · rw [if_neg e, if_pos e2, if_pos (by omega), if_neg e]
      · rw [if_neg e, if_neg e2, if_neg (by omega)]
  · by_cases e : j = k
    · subst e
      rw [upd_same]
      have hc : Cel (w.alloc (.cells #[.int .i64 t.at', .int .i64 t.n, .int .i64 t.rds, .int .i64 t.ph, .int .i64 t.came, .int .i64 t.psd] 70)) w.heap.size t.at' t.n t.rds t.ph t.came t.psd :=
        ⟨al_new _ _ _ 0 _ rfl rfl, al_new _ _ _ 1 _ rfl rfl, al_new _ _ _ 2 _ rfl rfl, al_new _ _ _ 3 _ rfl rfl, al_new _ _ _ 4 _ rfl rfl, al_new _ _ _ 5 _ rfl rfl, fun j => frozen_at _ _ _ j _ rfl⟩
      exact ⟨hc.same (Below.heap_setCell _ _ _ _ (by show w.heap.size ≠ G; omega)), h.fst.wf⟩
    · rw [upd_other e]
      have hj' : j < k := by omega
      have h1 := h.gt j hj'
      exact (h.tk j hj').same (hb _ (by omega) (h.tk j hj').lt)
  · by_cases e : j = k
    · subst e; rw [upd_same]; omega
    · rw [upd_other e]; exact h.gt j (by omega)
  · by_cases e : j = k
    · subst e
      rw [upd_same, upd_other (by omega)]
      exact (h.tk i (by omega)).lt
    · rw [upd_other e, upd_other (by omega)]
      exact h.sep i j hij (by omega)
  · exact (h.bel.alloc hbs _).setCell (p := ⟨G, k, none⟩) (by show w0.heap.size ≤ G; omega) _
theorem Ints.mono {S S' : Nat → Prop} {w : World} {A : Option Addr} {n : Nat} {q : Nat → Int} (h : Ints S w A n q) (hS : ∀ k, S' k → S k) : Ints S' w A n q := fun i hi => by
  obtain ⟨b, o, e, hs, hc⟩ := h i hi
  exact ⟨b, o, e, fun x => hs (hS _ x), hc⟩
theorem round_at (m : Mc) (s : Sy) (c : Int) (M : Nat) (x : Int) (hx : x = M) (w : World) (h : Sys w m s c) (hM : M ≤ 5000) (hN : m.N ≤ 20) (hc : 0 ≤ c) (hc2 : c ≤ 800000) :
    Calls Tryd.prog 20 #[.pointer (some ⟨m.X, 0, none⟩), .int .i64 x] w fun e w' => e = .returned (.int .i64 (s.count m.n m.N M)) ∧ StepS m (s.rounds m.n m.N M) c (M * m.N) w w' := by
  subst hx; exact round_any m s c M w h hM hN hc hc2
/-- What a play leaves. -/
def PlayP (g b mn : Nat) (s : Sy) (n M : Nat) (w : World) (e : Ending) (w' : World) : Prop :=
  e = .returned (.tuple #[.int .i64 (s.count mn n M), .int .i64 0]) ∧ (∃ c', 0 ≤ c' ∧ MemAt w' g b mn (s.rounds mn n M).f c') ∧ Chg (fun k => k = g ∨ k = b) w w'
theorem play_end {w0 w1 w2 w3 w4 : World} {m : Mc} {s2 : Sy} {g b : Nat} {c3 d3 : Int} (hg : m.g = g) (hb : m.b = b) (hB : Below w0.heap.size w0 w1) (hB2 : Below w1.heap.size w1 w2) (hown : ∀ k, m.own k → k = g ∨ k = b ∨ w0.heap.size ≤ k)
    (hC3 : Chg m.own w2 w3) (hS : StepS m s2 c3 d3 w3 w4) (h0 : 0 ≤ c3) : (∃ c', 0 ≤ c' ∧ MemAt w4 g b m.n s2.f c') ∧ Chg (fun k => k = g ∨ k = b) w0 w4 := by
  obtain ⟨c', h1, h2, h3, h4⟩ := hS
  subst hg hb
  refine ⟨⟨c', by omega, h3.mem⟩, ?_⟩
  have hB02 : Below w0.heap.size w0 w2 := hB.trans (hB2.mono hB.size)
  have hC := hC3.trans h4
  have hs := hC.size
  exact ⟨hC.os.trans hB02.os, hC.tape.trans hB02.tape, hC.output.trans hB02.output, Nat.le_trans hB02.size hC.size, fun k hk hn => by
    rw [hC.block k (Nat.lt_of_lt_of_le hk hB02.size) (fun ho => by rcases hown k ho with e | e | e; exact hn (.inl e); exact hn (.inr e); omega)]
    exact hB02.block k hk⟩
set_option maxHeartbeats 8000000 in
set_option maxRecDepth 100000 in
theorem play_any (g b mn a n M : Nat) (x y R : Int) (A : Option Addr) (L cap : Nat) (q : Nat → Int) (c : Int) (w : World) (hx : x = a) (hy : y = n) (hG : GOk w) (h1 : 1 ≤ n) (h8 : n ≤ 8) (hR : 0 ≤ R ∧ R ≤ 400) (hMR : (M : Int) = 10 * R + 10) (ha : a ≤ 1000)
    (hM : MemAt w g b mn (fun _ => 0) c) (hmn : mn ≤ 4096) (h6 : 6 ≤ g ∧ 6 ≤ b) (hA : Ints (fun x => x = g ∨ x = b ∨ w.heap.size ≤ x) w A L q) (hL : L ≤ 1000) (hc : 0 ≤ c ∧ c ≤ 100000) :
    Calls Tryd.prog 22 #[.pointer (some ⟨g, 0, none⟩), .int .i64 x, .int .i64 y, .int .i64 R, .slice A L cap] w fun e w' => PlayP g b mn ((sy0 n a R).runI mn n q L) n M w e w' := by
  subst hx hy
  have HG := Lib.hid hG
  have HM := Lib.hid hM
  have HA := Lib.hid hA
  have H6 := Lib.hid (And.intro h6 hmn)
  have HC := Lib.hid hc
  have HMR := Lib.hid hMR
  have hcl : clamp R = R := by unfold clamp; omega
  have hN0 := fun W => new_ok a n R W (by omega) (by omega) (by omega)
  simp only [NewP, hcl] at hN0
  have HN := Lib.hid hN0
  clear hN0
  have hmk := fun W => run_make_row' (P := Tryd.prog) 73 80 .nilIface 16 Tryd.underlying73 info80 rfl .i64 .i64 n (by omega) (by omega) W
  clear hG hM hA hcl h6 hmn hc hMR
  go_enter Tryd.func22, Tryd.ntmps22
  go_wp2_with fail
  with_reducible refine (HN.out _).mono ?_
  rintro e w1 ⟨rfl, hT1, hB1, _⟩
  have HT1 := Lib.hid hT1
  have HB1 := Lib.hid hB1
  clear hT1 hB1
  go_wp2_with fail
  go_loopw [31] (fun i wr => PlRel w w.heap.size w1.heap.size n (tk0 a n R) i wr) (fun i _ => n - (intOf i).toNat)
  case atStart => exact ⟨0, _, Nat.zero_le _, rfl, pl_nil HT1.out HB1.out⟩
  case round =>
    obtain ⟨k, B, hk, rfl, hP⟩ := hrel
    have HP := Lib.hid hP
    by_cases hlt : k < n
    · have k0 := hP.fst.cel.c0
      have k1 := hP.fst.cel.c1
      have k2 := hP.fst.cel.c2
      have k3 := hP.fst.cel.c3
      have k4 := hP.fst.cel.c4
      have k5 := hP.fst.cel.c5
      have hz0 := hP.row.frozen k
      have hc0 := hP.row.cell hlt
      rw [if_neg (by omega)] at hc0
      have hlt1 : w1.heap.size < wr.heap.size := hP.row.lt
      generalize tk0 a n R = t at *
      have hz := (frozen_old wr (.cells #[.int .i64 t.at', .int .i64 t.n, .int .i64 t.rds, .int .i64 t.ph, .int .i64 t.came, .int .i64 t.psd] 70) ⟨w1.heap.size, k, none⟩ hlt1).trans hz0
      have hc := al_cell (o := .cells #[.int .i64 t.at', .int .i64 t.n, .int .i64 t.rds, .int .i64 t.ph, .int .i64 t.came, .int .i64 t.psd] 70) hc0
      clear hP hz0 hc0 hlt1
      go_wp2_with fail
      go_roundw
      case rel => exact ⟨k + 1, _, by omega, by go_num, pl_next HP.out⟩
      case measure => simp [intOf]; omega
    · obtain rfl : k = n := by omega
      have hvals : ValsAt wr (some ⟨w1.heap.size, 0, none⟩) k fun j => tv (B j) := fun i hi => ⟨w1.heap.size, 0, rfl, by
        rw [Nat.zero_add]
        have := hP.row.cell hi
        rw [if_pos hi] at this
        exact this⟩
      have HV := Lib.hid hvals
      clear hvals hP
      go_wp2_with fail
      with_reducible refine (new_mach g _ k _ _ _ HV.out (fun _ _ => rfl) (by omega)).mono ?_
      rintro e w2 hNM
      have hbel := HP.out.bel
      obtain ⟨m, rfl, hmg, hmb, hmn, hmN, hmB, hX, hTB, hD, _, _, _, hS, hB2⟩ := sys_new (B := B) (t := fun _ => tk0 a k R) (f := fun _ => 0) (c := c) (HM.out.keep hbel) H6.out.2 (by omega) (HG.out.keep hbel) H6.out.1 (fun _ _ => rfl) HP.out.tk (fun _ _ => rfl)
        (fun i hi => by have := HP.out.gt i hi; have := HP.out.lo; have := HM.out.ltg; have := HM.out.row.lt; omega)
        (fun i j hi hj hij => by
          rcases Nat.lt_or_gt_of_ne hij with hl | hl
          · have := HP.out.sep i j hl hj; omega
          · have := HP.out.sep j i hl hi; omega) hNM
      have hown : ∀ x, m.own x → x = g ∨ x = b ∨ w.heap.size ≤ x := fun x hx => by
        have hbs := hbel.size
        rcases hx with e | e | e | e | e | ⟨i, hi, e⟩
        · omega
        · omega
        · omega
        · omega
        · omega
        · rw [hmB] at e
          have := HP.out.gt i (by omega)
          have := HP.out.lo
          omega
      have HO := Lib.hid hown
      have HB2 := Lib.hid hB2
      have HBL := Lib.hid hbel
      have HMM := Lib.hid (And.intro hmg (And.intro hmb (And.intro hmn hmN)))
      have hrun := run_any m _ c A L cap q w2 hS (((HA.out.keep (hbel.trans (hB2.mono hbel.size)))).mono hown) (by omega) (by have := HC.out; omega) (by have := HC.out; omega)
      have hFw : TakerAt w2 w.heap.size (tk0 a k R) := HP.out.fst.keep hB2
      have HF := Lib.hid hFw
      have HRN := Lib.hid hrun
      have hno : ¬ m.own w.heap.size := fun ho => by
        have hlo := HP.out.lo
        have hl := HP.out.row.lt
        have hg' := HM.out.ltg
        have hb' := HM.out.row.lt
        rcases ho with e | e | e | e | e | ⟨i, hi, e⟩
        · omega
        · omega
        · omega
        · omega
        · omega
        · rw [hmB] at e
          have := HP.out.gt i (by omega)
          omega
      have HNO := Lib.hid hno
      clear hNM hmg hmb hmn hmN hmB hX hTB hD hS hB2 hown hbel hrun hFw hno
      go_wp2_with fail
      with_reducible refine HRN.out.mono ?_
      rintro e w3 ⟨rfl, c3, hc1, hc2, hS3, hC3⟩
      have k2 : w3.cell? ⟨w.heap.size, 2, none⟩ = some (.int .i64 R) := hC3.cell HF.out.cel.c2 HNO.out
      have hx1 : IntKind.i64.wrap (10 * R) = 10 * R := IntWalk.i64_in _ (by omega)
      have hx2 : IntKind.i64.wrap (10 * R + 10) = 10 * R + 10 := IntWalk.i64_in _ (by omega)
      have HRD := Lib.hid (round_at m _ c3 M (10 * R + 10) (by rw [HMR.out]) w3 hS3 (by have := HMR.out; omega) (by have := HMM.out; omega) (by have := HC.out; omega) (by have := HC.out; omega))
      have HC3 := Lib.hid hC3
      have HC0 := Lib.hid (show 0 ≤ c3 by have := HC.out; omega)
      clear hc1 hc2 hS3 hC3
      go_wp2_with fail
      with_reducible refine HRD.out.mono ?_
      rintro e w4 ⟨rfl, hS4⟩
      have hend := play_end HMM.out.1 HMM.out.2.1 HBL.out HB2.out HO.out HC3.out hS4 HC0.out
      rw [HMM.out.2.2.1, HMM.out.2.2.2] at hend
      have HE := Lib.hid hend
      clear hS4 hend
      go_wp2_with fail
      refine bodyPost_ret (v := .tuple #[.int .i64 (((sy0 k a R).runI mn k q L).count mn k M), .int .i64 0]) ?_ rfl ⟨rfl, HE.out⟩
      have h1 := HMM.out.2.2.1
      have h2 := HMM.out.2.2.2
      simp [results, Tryd.results22, go_sem, h1, h2]
      rfl
end Go.Proofs.YtcjhbmkpfclmfaaDoor
