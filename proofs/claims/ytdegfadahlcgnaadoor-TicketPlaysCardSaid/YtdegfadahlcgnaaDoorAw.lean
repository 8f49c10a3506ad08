/-
  Machines: words loaded, new memories, literals; two machines apart; the chapter's example holds.
-/
import Derived.Test.YtdegfadahlcgnaaDoorTks
namespace Go.Proofs.YtdegfadahlcgnaaDoor
open Go.RowKit

theorem load_sys (m : Mc) (s : Sy) (c : Int) (i : Nat) (w : World) (h : Sys w m s c) (hi : i < m.n) (hc : 0 ≤ c ∧ c ≤ 1000000) :
    Calls Tryd.prog 24 #[.pointer (some ⟨m.g, 0, none⟩), .int .i64 i] w fun e w' => e = .returned (.tuple #[.int .u32 (s.f i), .int .i64 0]) ∧ StepS m s c 1 w w' := by
  refine (load_yes i m.g m.b m.n s.f c w h.gok h.mem h.ok.n1 hi hc).mono ?_
  rintro e w' ⟨rfl, hM, hE⟩
  refine ⟨rfl, c + 1, by omega, Int.le_refl _, h.use (f' := s.f) (hM.congr fun j _ => setF_same s.f i j) hE, (Chg.of_else hE).mono fun k hk => hk.elim .inl fun e => .inr (.inl e)⟩
theorem load_at (m : Mc) (s : Sy) (c : Int) (i : Nat) (x : Int) (hx : x = i) (w : World) (h : Sys w m s c) (hi : i < m.n) (hc : 0 ≤ c ∧ c ≤ 1000000) :
    Calls Tryd.prog 24 #[.pointer (some ⟨m.g, 0, none⟩), .int .i64 x] w fun e w' => e = .returned (.tuple #[.int .u32 (s.f i), .int .i64 0]) ∧ StepS m s c 1 w w' := by
  subst hx; exact load_sys m s c i w h hi hc
/-- Two machines apart. -/
structure Two (w0 : World) (m1 m2 : Mc) (s1 s2 : Sy) (c1 c2 : Int) (w : World) : Prop where
  a : Sys w m1 s1 c1
  b : Sys w m2 s2 c2
  bel : Below w0.heap.size w0 w
  loa : ∀ k, m1.own k → w0.heap.size ≤ k
  lob : ∀ k, m2.own k → w0.heap.size ≤ k
  dis : ∀ k, m1.own k → ¬ m2.own k
theorem Mc.six {w : World} {m : Mc} {s : Sy} {c : Int} (h : Sys w m s c) : ∀ k, m.own k → 6 ≤ k := Mc.own_ge h.ok h.lo
theorem Two.keep {w0 w w' : World} {m1 m2 : Mc} {s1 s2 : Sy} {c1 c2 : Int} (h : Two w0 m1 m2 s1 s2 c1 c2 w) (hB : Below w.heap.size w w') : Two w0 m1 m2 s1 s2 c1 c2 w' :=
  ⟨h.a.keep hB, h.b.keep hB, h.bel.trans (hB.mono h.bel.size), h.loa, h.lob, h.dis⟩
theorem Two.one {w0 w w' : World} {m1 m2 : Mc} {s1 s2 s' : Sy} {c1 c2 d : Int} (h : Two w0 m1 m2 s1 s2 c1 c2 w) (hS : StepS m1 s' c1 d w w') : ∃ c', c1 ≤ c' ∧ c' ≤ c1 + d ∧ Two w0 m1 m2 s' s2 c' c2 w' := by
  obtain ⟨c', h1, h2, h3, h4⟩ := hS
  exact ⟨c', h1, h2, h3, h.b.else h4 h.dis h3.gok, h.bel.trans (h4.below h.loa h.bel.size), h.loa, h.lob, h.dis⟩
theorem Two.two {w0 w w' : World} {m1 m2 : Mc} {s1 s2 s' : Sy} {c1 c2 d : Int} (h : Two w0 m1 m2 s1 s2 c1 c2 w) (hS : StepS m2 s' c2 d w w') : ∃ c', c2 ≤ c' ∧ c' ≤ c2 + d ∧ Two w0 m1 m2 s1 s' c1 c' w' := by
  obtain ⟨c', h1, h2, h3, h4⟩ := hS
  exact ⟨c', h1, h2, h.a.else h4 (fun k hk hj => h.dis k hj hk) h3.gok, h3, h.bel.trans (h4.below h.lob h.bel.size), h.loa, h.lob, h.dis⟩
theorem new_one (n : Nat) (h1 : 1 ≤ n) (h2 : n ≤ 4096) (x : Int) (hx : x = n) (w : World) :
    Calls Tryd.prog 9 #[.int .i64 x] w fun e w' => ∃ g b, e = .returned (.tuple #[.pointer (some ⟨g, 0, none⟩), .int .i64 0]) ∧ MemAt w' g b n (fun _ => 0) 0 ∧ w.heap.size ≤ g ∧ w.heap.size ≤ b ∧ Below w.heap.size w w' := by
  subst hx; exact new_yes n w h1 h2
/-- The numbers of a literal. -/
def litQ (l : List Int) (i : Nat) : Int := l.getD i 0
theorem ints_lit (S : Nat → Prop) (w : World) (l : List Int) (t : TypeId) (c : Array Value) (hc : c = (l.map fun x => Value.int .i64 x).toArray) (hS : ∀ k, S k → k < w.heap.size) : Ints S (w.alloc (.cells c t)) (some ⟨w.heap.size, 0, none⟩) l.length (litQ l) := fun i hi => by
  subst hc
  refine ⟨w.heap.size, 0, rfl, fun h => by have := hS _ h; omega, al_new _ _ _ _ _ rfl ?_⟩
  simp [litQ, hi]
theorem vals_lit (w : World) (l : List Value) (t : TypeId) : ValsAt (w.alloc (.cells l.toArray t)) (some ⟨w.heap.size, 0, none⟩) l.length (fun i => l.getD i .nilIface) := fun i hi => by
  refine ⟨w.heap.size, 0, rfl, al_new _ _ _ _ _ rfl ?_⟩
  simp [hi]
theorem six_of {w : World} (h : GOk w) : 6 ≤ w.heap.size := (h 5 (by decide)).lt
theorem run_lit (m : Mc) (s s' : Sy) (c : Int) (l : List Int) (r : Nat) (b : Nat) (L : Nat) (w : World) (h : Sys w m s c) (hn : m.n = 3) (hN : m.N = 2) (hL : l.length = L) (hL2 : L ≤ 1000) (hA : Ints m.own w (some ⟨b, 0, none⟩) l.length (litQ l)) (hc : 0 ≤ c) (hc2 : c ≤ 990000)
    (h1 : s.cntI 3 2 (litQ l) L = r) (h2 : s.runI 3 2 (litQ l) L = s') (cap : Nat) :
    Calls Tryd.prog 28 #[.pointer (some ⟨m.X, 0, none⟩), .slice (some ⟨b, 0, none⟩) L cap] w fun e w' => e = .returned (.int .i64 r) ∧ StepS m s' c L w w' := by
  subst hL
  have := run_any m s c (some ⟨b, 0, none⟩) l.length cap (litQ l) w h hA hL2 hc hc2
  rw [hn, hN, h1, h2] at this
  exact this
theorem one_two (T : TypeId) (a b : Value) (i : Nat) (hi : i < 2) : ([Value.iface T a, Value.iface T b].getD i .nilIface).oneCell' = true := by
  have : i = 0 ∨ i = 1 := by omega
  rcases this with rfl | rfl <;> rfl
/-- Two new takers, and their machine. -/
theorem pair_sys (g b : Nat) (w w1 w2 w3 w4 : World) (e : Ending) (hG : GOk w) (hM : MemAt w g b 3 (fun _ => 0) 0) (h6 : 6 ≤ g ∧ 6 ≤ b)
    (hT1 : TakerAt w1 w.heap.size (tk0 0 2 1)) (hB1 : Below w.heap.size w w1) (hz1 : w1.heap.size = w.heap.size + 1) (hT2 : TakerAt w2 w1.heap.size (tk0 0 2 1)) (hB2 : Below w1.heap.size w1 w2)
    (hB3 : Below w2.heap.size w2 w3) (h : NewM g 2 (fun i => [tv w.heap.size, tv w1.heap.size].getD i .nilIface) w3 e w4) :
    ∃ m : Mc, e = .returned (.pointer (some ⟨m.X, 0, none⟩)) ∧ m.g = g ∧ m.n = 3 ∧ m.N = 2 ∧ m.B 0 = w.heap.size ∧ m.B 1 = w1.heap.size ∧ Sys w4 m ⟨fun _ => tk0 0 2 1, fun _ => 0⟩ 0 ∧ Below w.heap.size w w4 ∧ ∀ k, m.own k → k = g ∨ k = b ∨ w.heap.size ≤ k := by
  have hg := hM.ltg
  have hb := hM.row.lt
  have hs3 := hB3.size
  have hBw2 := hB1.trans (hB2.mono hB1.size)
  have hBw3 := hBw2.trans (hB3.mono hBw2.size)
  have hsw := hBw3.size
  obtain ⟨m, he, h1, h2, h3, h4, h5, h8, h9, h10, _, _, _, hS, hB⟩ := sys_new (B := fun i => if i = 0 then w.heap.size else w1.heap.size) (t := fun _ => tk0 0 2 1) (f := fun _ => 0) (c := 0) (hM.keep hBw3) (by omega) (by omega) (hG.keep hBw3) h6
    (fun i hi => by
      have : i = 0 ∨ i = 1 := by omega
      rcases this with rfl | rfl <;> rfl)
    (fun i hi => by
      have : i = 0 ∨ i = 1 := by omega
      rcases this with rfl | rfl
      · exact (hT1.keep hB2).keep hB3
      · exact hT2.keep hB3)
    (fun _ _ => rfl) (fun i hi => by
      have : i = 0 ∨ i = 1 := by omega
      rcases this with rfl | rfl
      · exact ⟨hg, hb⟩
      · show g < w1.heap.size ∧ b < w1.heap.size; omega)
    (fun i j hi hj hij => by
      have : i = 0 ∨ i = 1 := by omega
      have : j = 0 ∨ j = 1 := by omega
      rcases ‹i = 0 ∨ i = 1› with rfl | rfl <;> rcases ‹j = 0 ∨ j = 1› with rfl | rfl <;> simp <;> omega) h
  refine ⟨m, he, h1, h3, h4, by rw [h5]; rfl, by rw [h5]; rfl, hS, hBw3.trans (hB.mono hBw3.size), fun k hk => ?_⟩
  rcases hk with e | e | e | e | e | ⟨i, hi, e1⟩
  · omega
  · omega
  · omega
  · omega
  · omega
  · rw [h5] at e1
    simp only [] at e1
    split at e1 <;> omega
def awX : Sy := ⟨fun _ => tk0 0 2 1, fun _ => 0⟩
def awX1 : Sy := awX.runI 3 2 (litQ [0, 1, 1]) 3
def awX2 : Sy := awX1.pickI 3 2 0
def awX3 : Sy := awX2.runI 3 2 (litQ [0, 0, 0, 1]) 4
theorem aw1 : awX.cntI 3 2 (litQ [0, 1, 1]) 3 = 3 := by decide +kernel
theorem aw2 : (awX1.l 0).waits = true ∧ (awX1.l 1).waits = true ∧ (awX1.l 1).tk = 1 ∧ awX1.err 2 0 = 0 := by decide +kernel
theorem aw3 : (awX2.l 0).holds = true ∧ (awX2.l 1).holds = false := by decide +kernel
theorem aw4 : awX2.cntI 3 2 (litQ [0, 0, 0, 1]) 4 = 4 := by decide +kernel
theorem aw5 : awX3.doneI 2 0 = true ∧ awX3.doneI 2 1 = false ∧ (awX3.l 1).holds = true ∧ (awX3.l 0).left = 0 ∧ (awX3.l 1).left = 1 ∧ awX3.f 2 = 1 := by decide +kernel
theorem words_sys (m : Mc) (s : Sy) (c : Int) (w : World) (h : Sys w m s c) :
    Calls Tryd.prog 17 #[.pointer (some ⟨m.g, 0, none⟩)] w fun e w' => ∃ d, e = .returned (.slice (some ⟨d, 0, none⟩) m.n m.n) ∧ OwnU w' d m.n s.f ∧ w.heap.size ≤ d ∧ Below w.heap.size w w' := words_any m.g m.b m.n s.f c w h.mem h.ok.n1
/-- One machine, behind the world w0. -/
structure One (w0 : World) (m : Mc) (s : Sy) (c : Int) (w : World) : Prop where
  a : Sys w m s c
  bel : Below w0.heap.size w0 w
  lo : ∀ k, m.own k → w0.heap.size ≤ k
theorem One.keep {w0 w w' : World} {m : Mc} {s : Sy} {c : Int} (h : One w0 m s c w) (hB : Below w.heap.size w w') : One w0 m s c w' := ⟨h.a.keep hB, h.bel.trans (hB.mono h.bel.size), h.lo⟩
theorem One.step {w0 w w' : World} {m : Mc} {s s' : Sy} {c d : Int} (h : One w0 m s c w) (hS : StepS m s' c d w w') : ∃ c', c ≤ c' ∧ c' ≤ c + d ∧ One w0 m s' c' w' := by
  obtain ⟨c', h1, h2, h3, h4⟩ := hS
  exact ⟨c', h1, h2, h3, h.bel.trans (h4.below h.lo h.bel.size), h.lo⟩
theorem One.tk {w0 w : World} {m : Mc} {s : Sy} {c : Int} (h : One w0 m s c w) (i B : Nat) (hi : i < m.N) (hB : m.B i = B) : TakerAt w B (s.l i) := by subst hB; exact h.a.tsk i hi
set_option maxHeartbeats 8000000 in
set_option maxRecDepth 100000 in
theorem awake_any (w : World) (hG : GOk w) : Calls Tryd.prog 10 #[] w fun e w' => e = .returned (.bool true) ∧ Below w.heap.size w w' := by
  have HG := Lib.hid hG
  have H6 := Lib.hid (six_of hG)
  clear hG
  go_enter Tryd.func10, Tryd.ntmps10
  go_wp2_with fail
  with_reducible refine (new_one 3 (by omega) (by omega) 3 rfl _).mono ?_
  rintro e w1 ⟨g1, b1, rfl, hM1, hg1, hb1, hB1⟩
  have HM1 := Lib.hid hM1
  have HI1 := Lib.hid (And.intro hg1 hb1)
  have HB1 := Lib.hid hB1
  clear hM1 hg1 hb1 hB1
  go_wp2_with fail
  with_reducible refine (taker_new 0 2 1 _ (by omega) (by omega)).mono ?_
  rintro e w3 ⟨rfl, hT3, hB3, hz3⟩
  have HT3 := Lib.hid hT3
  have HB3 := Lib.hid hB3
  have HZ3 := Lib.hid hz3
  clear hT3 hB3 hz3
  go_wp2_with fail
  with_reducible refine (taker_new 0 2 1 _ (by omega) (by omega)).mono ?_
  rintro e w4 ⟨rfl, hT4, hB4, hz4⟩
  have HT4 := Lib.hid hT4
  have HB4 := Lib.hid hB4
  clear hT4 hB4 hz4
  go_wp2_with fail
  with_reducible refine (new_mach g1 _ 2 _ _ _ (vals_lit w4 [tv w1.heap.size, tv w3.heap.size] 81) (fun i hi => one_two _ _ _ i hi) (by omega)).mono ?_
  rintro e w5 hNM
  obtain ⟨m, rfl, rfl, hn1, hN1, hb0, hb1, hS1, hBS1, hO1⟩ := pair_sys g1 b1 w1 w3 w4 _ w5 _ (HG.out.keep HB1.out) HM1.out (by have := HI1.out; have := H6.out; omega) HT3.out HB3.out HZ3.out HT4.out HB4.out ((Below.refl _ _).alloc (Nat.le_refl _) _) hNM
  have HN1 := Lib.hid (And.intro hn1 hN1)
  have HBB := Lib.hid (And.intro hb0 hb1)
  have HOn : Hid (One w m awX 0 w5) := Lib.hid ⟨hS1, HB1.out.trans (hBS1.mono HB1.out.size), fun k hk => by have := hO1 k hk; have := HI1.out; have := HB1.out.size; omega⟩
  clear hNM hn1 hN1 hS1 hBS1 hO1 hb0 hb1 HT3 HB3 HZ3 HT4 HB4
  go_wp2_with fail
  with_reducible refine (run_lit m awX awX1 0 [0, 1, 1] 3 w5.heap.size 3 _ (HOn.out.keep ((Below.refl _ _).alloc (Nat.le_refl _) _)).a HN1.out.1 HN1.out.2 rfl (by omega) (ints_lit _ w5 [0, 1, 1] 3 #[.int .i64 0, .int .i64 1, .int .i64 1] (by simp) HOn.out.a.own_lt) (by omega) (by omega) aw1 rfl _).mono ?_
  rintro e w9 ⟨rfl, hs⟩
  obtain ⟨c9, hc1, hc2, hT⟩ := (HOn.out.keep ((Below.refl _ _).alloc (Nat.le_refl _) _)).step hs
  have HC9 := Lib.hid (And.intro hc1 hc2)
  have HO9 := Lib.hid hT
  clear hs hc1 hc2 hT HOn
  go_wp2_with fail
  have hx := waits_any _ _ _ (HO9.out.tk 0 _ (by have := HN1.out; omega) HBB.out.1)
  rw [aw2.1] at hx
  with_reducible refine hx.mono ?_
  clear hx
  rintro e w' ⟨rfl, rfl⟩
  go_wp2_with fail
  have hx := waits_any _ _ _ (HO9.out.tk 1 _ (by have := HN1.out; omega) HBB.out.2)
  rw [aw2.2.1] at hx
  with_reducible refine hx.mono ?_
  clear hx
  rintro e w' ⟨rfl, rfl⟩
  go_wp2_with fail
  have hx := ticket_any _ _ _ (HO9.out.tk 1 _ (by have := HN1.out; omega) HBB.out.2)
  rw [aw2.2.2.1] at hx
  with_reducible refine hx.mono ?_
  clear hx
  rintro e w' ⟨rfl, rfl⟩
  go_wp2_with fail
  have hx := pick_any m awX1 c9 0 _ HO9.out.a (by have := HC9.out; omega)
  rw [HN1.out.1, HN1.out.2, aw2.2.2.2] at hx
  with_reducible refine hx.mono ?_
  clear hx
  rintro e w10 ⟨rfl, hs⟩
  obtain ⟨c10, hc1, hc2, hT⟩ := HO9.out.step hs
  have HC10 := Lib.hid (And.intro hc1 hc2)
  have HO10 : Hid (One w m awX2 c10 w10) := Lib.hid hT
  clear hs hc1 hc2 hT HO9
  go_wp2_with fail
  have hx := holds_any _ _ _ (HO10.out.tk 0 _ (by have := HN1.out; omega) HBB.out.1)
  rw [aw3.1] at hx
  with_reducible refine hx.mono ?_
  clear hx
  rintro e w' ⟨rfl, rfl⟩
  go_wp2_with fail
  have hx := holds_any _ _ _ (HO10.out.tk 1 _ (by have := HN1.out; omega) HBB.out.2)
  rw [aw3.2] at hx
  with_reducible refine hx.mono ?_
  clear hx
  rintro e w' ⟨rfl, rfl⟩
  go_wp2_with fail
  with_reducible refine (run_lit m awX2 awX3 c10 [0, 0, 0, 1] 4 w10.heap.size 4 _ (HO10.out.keep ((Below.refl _ _).alloc (Nat.le_refl _) _)).a HN1.out.1 HN1.out.2 rfl (by omega) (ints_lit _ w10 [0, 0, 0, 1] 3 #[.int .i64 0, .int .i64 0, .int .i64 0, .int .i64 1] (by simp) HO10.out.a.own_lt) (by have := HC9.out; have := HC10.out; omega) (by have := HC9.out; have := HC10.out; omega) aw4 rfl _).mono ?_
  rintro e w11 ⟨rfl, hs⟩
  obtain ⟨c11, hc1, hc2, hT⟩ := (HO10.out.keep ((Below.refl _ _).alloc (Nat.le_refl _) _)).step hs
  have HO11 := Lib.hid hT
  clear hs hc1 hc2 hT HO10
  go_wp2_with fail
  have hx := words_sys m awX3 _ _ HO11.out.a
  rw [HN1.out.1] at hx
  with_reducible refine hx.mono ?_
  clear hx
  rintro e w12 ⟨d, rfl, hU, hd, hB12⟩
  have hcell := hU.cell (show 2 < 3 by omega)
  rw [aw5.2.2.2.2.2] at hcell
  have HO12 := Lib.hid (HO11.out.keep hB12)
  clear hU hd hB12 HO11
  go_wp2_with fail
  have hx := done_any m awX3 _ 0 _ HO12.out.a
  rw [HN1.out.2, aw5.1] at hx
  with_reducible refine hx.mono ?_
  clear hx
  rintro e w' ⟨rfl, rfl⟩
  go_wp2_with fail
  have hx := done_any m awX3 _ 1 _ HO12.out.a
  rw [HN1.out.2, aw5.2.1] at hx
  with_reducible refine hx.mono ?_
  clear hx
  rintro e w' ⟨rfl, rfl⟩
  go_wp2_with fail
  have hx := holds_any _ _ _ (HO12.out.tk 1 _ (by have := HN1.out; omega) HBB.out.2)
  rw [aw5.2.2.1] at hx
  with_reducible refine hx.mono ?_
  clear hx
  rintro e w' ⟨rfl, rfl⟩
  go_wp2_with fail
  have hx := leftT_any _ _ _ (HO12.out.tk 0 _ (by have := HN1.out; omega) HBB.out.1)
  rw [aw5.2.2.2.1] at hx
  with_reducible refine hx.mono ?_
  clear hx
  rintro e w' ⟨rfl, rfl⟩
  go_wp2_with fail
  have hx := leftT_any _ _ _ (HO12.out.tk 1 _ (by have := HN1.out; omega) HBB.out.2)
  rw [aw5.2.2.2.2.1] at hx
  with_reducible refine hx.mono ?_
  clear hx
  rintro e w' ⟨rfl, rfl⟩
  go_wp2_with fail
  go_ret
  exact ⟨rfl, HO12.out.bel⟩
end Go.Proofs.YtdegfadahlcgnaaDoor
