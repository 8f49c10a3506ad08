/-
  The five steps of a receiver.
-/
import Derived.Test.YtnmobalgghggnaaDoorRcv
import Derived.Test.YtnmobalgghggnaaDoorSndA
namespace Go.Proofs.YtnmobalgghggnaaDoor
open Go.RowKit

/-- The memory lies apart from the receiver. -/
structure DisR (g b B : Nat) (v : Value) : Prop where
  gB : g ≠ B
  bB : b ≠ B
  gv : v.ownBlock ≠ some g
  bv : v.ownBlock ≠ some b
theorem ReceiverAt.else {g b B : Nat} {v : Value} {q : Nat} {r : Rv} {w w' : World} (h : ReceiverAt w B v q r) (hE : Else g b w w') (hd : DisR g b B v) : ReceiverAt w' B v q r :=
  h.chg (Chg.of_else hE) (fun e => e.elim (fun e => hd.gB e.symm) fun e => hd.bB e.symm) (fun x hx e => e.elim (fun e => hd.gv (by rw [hx, e])) fun e => hd.bv (by rw [hx, e]))
/-- What a step leaves. -/
def RcvQ (g b n B : Nat) (v : Value) (q : Nat) (r : Rv) (f : Nat → Int) (c : Int) (w w' : World) : Prop :=
  (∃ c', c ≤ c' ∧ c' ≤ c + 1 ∧ MemAt w' g b n (r.word n f) c') ∧ ∃ v', ReceiverAt w' B v' q (r.step n f) ∧ Chg (SS g b B v) w w' ∧ (v'.ownBlock = v.ownBlock ∨ ∃ k, v'.ownBlock = some k ∧ w.heap.size ≤ k)
/-- What it answers. -/
def ActR (g b n B : Nat) (v : Value) (q : Nat) (r : Rv) (f : Nat → Int) (c : Int) (w : World) (e : Ending) (w' : World) : Prop :=
  ∃ (pr : Nat) (er : Int), e = .returned (.tuple #[.int .i64 pr, .int .i64 er]) ∧ (if er = 0 then pr else 5) = (r.step n f).ph ∧ RcvQ g b n B v q r f c w w'
theorem Rv.step_no {n : Nat} {f : Nat → Int} {r : Rv} (hi : ¬ (0 ≤ r.wh ∧ r.wh < n)) (hp : r.ph < 5) : r.step n f = { r with ph := 5 } := by unfold Rv.step; rw [if_neg (by omega), inM_ne hi]; rfl
theorem Rv.word_no {n : Nat} {f : Nat → Int} {r : Rv} (hi : ¬ (0 ≤ r.wh ∧ r.wh < n)) (hp : r.ph < 5) : r.word n f = f := by unfold Rv.word; rw [if_neg (by omega), inM_ne hi]; rfl
theorem Rv.step_yes {n i : Nat} {f : Nat → Int} {r : Rv} (hi : r.wh = i) (hm : i < n) (hp : r.ph < 5) : r.step n f = r.go (f i) := by unfold Rv.step; rw [if_neg (by omega), inM_of (by omega), hi]; rfl
theorem Rv.word_yes {n i : Nat} {f : Nat → Int} {r : Rv} (hi : r.wh = i) (hm : i < n) (hp : r.ph < 5) : r.word n f = upd f i (r.puts (f i)) := by unfold Rv.word; rw [if_neg (by omega), inM_of (by omega), hi]; rfl
theorem Rv.wh0 {r : Rv} (h : r.ph = 0) : r.wh = r.at' + 1 := by cases r; cases h; rfl
theorem Rv.wh1 {r : Rv} (h : r.ph = 1) : r.wh = r.at' := by cases r; cases h; rfl
theorem Rv.wh2 {r : Rv} (h : r.ph = 2) : r.wh = base r.at' r.pl r.sz r.own := by cases r; cases h; rfl
theorem Rv.wh3 {r : Rv} (h : r.ph = 3) : r.wh = base r.at' r.pl r.sz r.own + 1 + r.pa := by cases r; cases h; rfl
theorem Rv.wh4 {r : Rv} (h : r.ph = 4) : r.wh = r.at' := by cases r; cases h; rfl
theorem Rv.puts0 {r : Rv} {x : Int} (h : r.ph < 4) : r.puts x = x := by
  have h4 : r.ph = 0 ∨ r.ph = 1 ∨ r.ph = 2 ∨ r.ph = 3 := by omega
  rcases h4 with h | h | h | h <;> (cases r; cases h; rfl)
theorem Rv.puts4 {r : Rv} {x : Int} (h : r.ph = 4) : r.puts x = inc r.own := by cases r; cases h; rfl
theorem Rv.word_same {n : Nat} {f : Nat → Int} {r : Rv} (hp : r.ph < 4) : r.word n f = f := by
  unfold Rv.word
  rw [if_neg (by omega)]
  split
  · rw [Rv.puts0 hp, upd_self]
  · rfl
/-- All that a step begins with. -/
structure PreR (w : World) (g b n B : Nat) (v : Value) (q : Nat) (r : Rv) (f : Nat → Int) (c : Int) : Prop where
  T : ReceiverAt w B v q r
  W : r.Wf
  d : DisR g b B v
  G : GOk w
  M : MemAt w g b n f c
  nn : n ≤ 4096
  cc : 0 ≤ c ∧ c ≤ 1000000
  ff : U32 n f
/-- What a use leaves, whether there is the word or not. -/
def UseQ (g b n B : Nat) (v : Value) (q : Nat) (r : Rv) (f' : Nat → Int) (c : Int) (w w' : World) : Prop :=
  (∃ c', c ≤ c' ∧ c' ≤ c + 1 ∧ MemAt w' g b n f' c') ∧ ReceiverAt w' B v q r ∧ Chg (SS g b B v) w w'
section
variable (B g b n : Nat) (v : Value) (q : Nat) (r : Rv) (f : Nat → Int) (c : Int) (w : World)
theorem rstore_at (h : PreR w g b n B v q r f c) (hp : r.ph < 5) (x : Int) (hx : r.puts (f r.wh.toNat) = x) : ∃ (er : Int) (f' : Nat → Int), f' = r.word n f ∧ (er = 0 ∧ r.step n f = r.go (f r.wh.toNat) ∨ er ≠ 0 ∧ r.step n f = { r with ph := 5 }) ∧
    ∀ W, Below w.heap.size w W → Calls Tryd.prog 17 #[.pointer (some ⟨g, 0, none⟩), .int .i64 r.wh, .int .u32 x] W fun e w' => e = .returned (.int .i64 er) ∧ UseQ g b n B v q r f' c w w' := by
  by_cases hi : 0 ≤ r.wh ∧ r.wh < n
  · obtain ⟨i, hi'⟩ : ∃ i : Nat, r.wh = i := ⟨r.wh.toNat, by omega⟩
    have him : i < n := by omega
    have ht : r.wh.toNat = i := by omega
    refine ⟨0, r.word n f, rfl, .inl ⟨rfl, ?_⟩, fun W hB => ?_⟩
    · rw [Rv.step_yes hi' him hp, ht]
    · rw [hi']
      refine (store_yes x i g b n f c W (h.G.keep hB) (h.M.keep hB) h.nn him h.cc).mono ?_
      rintro e w' ⟨he, hM, hE⟩
      refine ⟨he, ⟨c + 1, by omega, Int.le_refl _, ?_⟩, (h.T.keep hB).else hE h.d, (Chg.of_below hB).trans (SS.e hE)⟩
      rw [Rv.word_yes hi' him hp, ← ht, hx, ht]
      exact hM
  · refine ⟨81, r.word n f, rfl, .inr ⟨by decide, Rv.step_no hi hp⟩, fun W hB => ?_⟩
    refine (store_no x r.wh g b n f c W (h.G.keep hB) (h.M.keep hB) h.nn hi).mono ?_
    rintro e w' ⟨he, hB2⟩
    refine ⟨he, ⟨c, Int.le_refl _, by omega, ?_⟩, (h.T.keep hB).keep hB2, (Chg.of_below hB).trans (Chg.of_below hB2)⟩
    rw [Rv.word_no hi hp]
    exact (h.M.keep hB).keep hB2
theorem rload_at (h : PreR w g b n B v q r f c) (hp : r.ph < 4) : ∃ x er : Int, (0 ≤ x ∧ x < 4294967296) ∧ (er = 0 ∧ r.step n f = r.go x ∨ er ≠ 0 ∧ r.step n f = { r with ph := 5 }) ∧
    ∀ W, Below w.heap.size w W → Calls Tryd.prog 62 #[.pointer (some ⟨g, 0, none⟩), .int .i64 r.wh] W fun e w' => e = .returned (.tuple #[.int .u32 x, .int .i64 er]) ∧ UseQ g b n B v q r (r.word n f) c w w' := by
  have hp5 : r.ph < 5 := by omega
  rw [Rv.word_same hp]
  by_cases hi : 0 ≤ r.wh ∧ r.wh < n
  · obtain ⟨i, hi'⟩ : ∃ i : Nat, r.wh = i := ⟨r.wh.toNat, by omega⟩
    have him : i < n := by omega
    refine ⟨f i, 0, h.ff i him, .inl ⟨rfl, Rv.step_yes hi' him hp5⟩, fun W hB => ?_⟩
    rw [hi']
    refine (load_yes i g b n f c W (h.G.keep hB) (h.M.keep hB) h.nn him h.cc).mono ?_
    rintro e w' ⟨he, hM, hE⟩
    rw [setF_upd0] at hM
    exact ⟨he, ⟨c + 1, by omega, Int.le_refl _, hM⟩, (h.T.keep hB).else hE h.d, (Chg.of_below hB).trans (SS.e hE)⟩
  · refine ⟨0, 81, by omega, .inr ⟨by decide, Rv.step_no hi hp5⟩, fun W hB => ?_⟩
    refine (load_no r.wh g b n f c W (h.G.keep hB) (h.M.keep hB) h.nn hi).mono ?_
    rintro e w' ⟨he, hB2⟩
    exact ⟨he, ⟨c, Int.le_refl _, by omega, (h.M.keep hB).keep hB2⟩, (h.T.keep hB).keep hB2, (Chg.of_below hB).trans (Chg.of_below hB2)⟩
set_option maxHeartbeats 4000000 in
set_option maxRecDepth 100000 in
theorem ract0 (h : PreR w g b n B v q r f c) (hp : r.ph = 0) :
    Calls Tryd.prog 54 #[.pointer (some ⟨B, 0, none⟩), .pointer (some ⟨g, 0, none⟩)] w fun e w' => ActR g b n B v q r f c w e w' := by
  have hp5 : r.ph < 5 := by omega
  have hE := h.T.end hp5
  have hTA := Lib.hid (tail_any B r.at' r.oth r.own w r.pa r.pl r.sz hE h.W.ar)
  rw [← Rv.wh0 hp] at hTA
  obtain ⟨x, er, _, hst, hS⟩ := rload_at B g b n v q r f c w h (by omega)
  have HS := Lib.hid (hS w (Below.refl _ _))
  have H := Lib.hid (And.intro hst (And.intro hp hp5))
  have HD := Lib.hid h.d
  generalize r.wh = a at hTA HS
  clear h hp hp5 hE hS hst
  go_enter Tryd.func54, Tryd.ntmps54
  go_wp2_with fail
  with_reducible refine hTA.out.mono ?_
  rintro e w0 ⟨rfl, rfl⟩
  go_wp2_with fail
  with_reducible refine HS.out.mono ?_
  rintro e w1 ⟨rfl, hq⟩
  have HQ := Lib.hid hq
  have q3 := (hq.2.1.end H.out.2.2).c3
  have z3 := hq.2.1.fz 3
  clear hq
  go_wp2_with fail
  go_ret2
  obtain ⟨⟨c', h1, h1', h1m⟩, h2, h3⟩ := HQ.out
  refine ⟨1, er, rfl, ?_, ⟨c', h1, h1', h1m.setB HD.out.gB HD.out.bB _ _⟩, v, ?_, SS.set h3 _ _, .inl rfl⟩
  · rcases H.out.1 with ⟨h4, h5⟩ | ⟨h4, h5⟩
    · rw [if_pos h4, h5, Rv.go0 H.out.2.1]
    · rw [if_neg h4, h5]
  · have h6 := h2.setO H.out.2.2 x
    rcases H.out.1 with ⟨h4, h5⟩ | ⟨h4, h5⟩
    · rw [h5, Rv.go0 H.out.2.1]; exact h6.think H.out.2.2 1
    · rw [h5]; exact h6.over rfl rfl rfl rfl rfl rfl
theorem RcvQ.close {x : ByteArray} {w w1 w2 : World} {e : Ending} {c' : Int} {r1 : Rv} (hd : DisR g b B v) (hC1 : Chg (SS g b B v) w w1) (hM : MemAt w1 g b n (r.word n f) c') (hc : c ≤ c' ∧ c' ≤ c + 1) (hst : r.step n f = r1.close x) (h : CloseR B v q r1 x w1 e w2) :
    RcvQ g b n B v q r f c w w2 := by
  obtain ⟨_, v', h1, h2, h3⟩ := h
  have hs := hC1.size
  refine ⟨⟨c', hc.1, hc.2, h2.mem hM (fun e => e.elim hd.gB hd.gv) (fun e => e.elim hd.bB hd.bv)⟩, v', by rw [hst]; exact h1, hC1.trans (h2.mono fun k hk => .inr (.inr hk)), h3.imp id fun ⟨k, h4, h5⟩ => ⟨k, h4, by omega⟩⟩
theorem Rv.Wf.setOwn {r : Rv} (h : r.Wf) {x : Int} (hx : 0 ≤ x ∧ x < 4294967296) : ({ r with own := x } : Rv).Wf := ⟨h.ar, h.pl, h.sz, h.few, h.k, h.ph, h.more, hx, h.oth, h.ld, h.ld0, h.pa, h.txt⟩
set_option maxHeartbeats 4000000 in
set_option maxRecDepth 100000 in
theorem ract1 (h : PreR w g b n B v q r f c) (hp : r.ph = 1) :
    Calls Tryd.prog 55 #[.pointer (some ⟨B, 0, none⟩), .pointer (some ⟨g, 0, none⟩)] w fun e w' => ActR g b n B v q r f c w e w' := by
  have hp5 : r.ph < 5 := by omega
  have hE := h.T.end hp5
  have k0 := hE.c0
  rw [← Rv.wh1 hp] at k0
  obtain ⟨x, er, hxr, hst, hS⟩ := rload_at B g b n v q r f c w h (by omega)
  have HS := Lib.hid (hS w (Below.refl _ _))
  have H := Lib.hid (And.intro hst (And.intro hp (And.intro hp5 hxr)))
  have HD := Lib.hid h.d
  have HW := Lib.hid h.W
  generalize r.wh = a at k0 HS
  clear h hp hp5 hE hS hst hxr
  go_enter Tryd.func55, Tryd.ntmps55
  go_wp2_with fail
  with_reducible refine HS.out.mono ?_
  rintro e w1 ⟨rfl, hq⟩
  obtain ⟨⟨c', h1, h1', h1m⟩, h2, h3⟩ := hq
  have HR := Lib.hid (And.intro (And.intro h1 h1') (And.intro h1m (And.intro h2 h3)))
  have q3 := (h2.end H.out.2.2.1).c3
  have q4 := (h2.end H.out.2.2.1).c4
  have z4 := h2.fz 4
  clear h1 h1' h1m h2 h3 k0
  by_cases her : er = 0
  · have h5 := H.out.1.elim (fun x => x.2) (fun x => absurd her x.1)
    rw [Rv.go1 H.out.2.1] at h5
    have H5 := Lib.hid h5
    subst her
    clear h5
    go_wp2_with fail
    have HT2 := Lib.hid (HR.out.2.2.1.setX H.out.2.2.1 x)
    have j4 := (HT2.out.end H.out.2.2.1).c4
    have HM2 := Lib.hid (HR.out.2.1.setB HD.out.gB HD.out.bB 4 (.int .u32 x))
    have HC2 := Lib.hid (SS.set HR.out.2.2.2 4 (.int .u32 x))
    clear q4
    by_cases hx : x = r.oth
    · have hb : (x == r.oth) = true := by simpa using hx
      have hst := H5.out
      rw [if_pos hx] at hst
      have HST := Lib.hid hst
      clear hst hx
      go_quiet (fail)
      have HT3 := Lib.hid (HT2.out.drewN nq)
      have HM3 := Lib.hid (HM2.out.keep (Qt.below ⟨nq, rfl⟩))
      have HC3 := Lib.hid (HC2.out.trans (Chg.of_below (Qt.below ⟨nq, rfl⟩)))
      obtain ⟨w3, hw3⟩ : ∃ w3, w3 = (w1.setCell ⟨B, 4, none⟩ (.int .u32 x)).drewN nq := ⟨_, rfl⟩
      rw [← hw3] at HT3 HM3 HC3 ⊢
      have HWO := Lib.hid (HW.out.setOwn H.out.2.2.2)
      clear hw3 j4 q3 hb
      go_wp2_with fail
      with_reducible refine (rclose_any B v q _ w3 ⟨#[]⟩ HT3.out H.out.2.2.1 HWO.out).mono ?_
      rintro e w4 hcl
      have HCL := Lib.hid hcl
      obtain ⟨rfl, _⟩ := hcl
      go_wp2_with fail
      go_ret2
      exact ⟨_, 0, rfl, by rw [if_pos rfl, HST.out]; rfl, RcvQ.close B g b n v q r f c HD.out HC3.out HM3.out HR.out.1 HST.out HCL.out⟩
    · have hb : (x == r.oth) = false := by simpa using hx
      have hst := H5.out
      rw [if_neg hx] at hst
      have HST := Lib.hid hst
      clear hst hx
      go_quiet (fail)
      have HT3 := Lib.hid (HT2.out.drewN nq)
      have HM3 := Lib.hid (HM2.out.keep (Qt.below ⟨nq, rfl⟩))
      have HC3 := Lib.hid (HC2.out.trans (Chg.of_below (Qt.below ⟨nq, rfl⟩)))
      clear j4 q3 hb
      go_wp2_with fail
      go_ret2
      refine ⟨2, 0, rfl, by rw [if_pos rfl, HST.out], ⟨c', HR.out.1.1, HR.out.1.2, HM3.out⟩, v, ?_, HC3.out, .inl rfl⟩
      rw [HST.out]
      exact HT3.out.think H.out.2.2.1 2
  · have h5 := H.out.1.elim (fun x => absurd x.1 her) (fun x => x.2)
    have H5 := Lib.hid h5
    clear h5
    go_wp2_with fail
    go_ret2
    refine ⟨5, er, rfl, by rw [if_neg her, H5.out], ⟨c', HR.out.1.1, HR.out.1.2, HR.out.2.1⟩, v, ?_, HR.out.2.2.2, .inl rfl⟩
    rw [H5.out]
    exact HR.out.2.2.1.lost
set_option maxHeartbeats 4000000 in
set_option maxRecDepth 100000 in
theorem ract2 (h : PreR w g b n B v q r f c) (hp : r.ph = 2) :
    Calls Tryd.prog 56 #[.pointer (some ⟨B, 0, none⟩), .pointer (some ⟨g, 0, none⟩)] w fun e w' => ActR g b n B v q r f c w e w' := by
  have hp5 : r.ph < 5 := by omega
  have hE := h.T.end hp5
  have hHL := Lib.hid (length_any B r.at' r.pl r.sz r.oth r.own w r.pa hE h.W.ar h.W.pl h.W.sz.2 h.W.own)
  rw [← Rv.wh2 hp] at hHL
  obtain ⟨x, er, hxr, hst, hS⟩ := rload_at B g b n v q r f c w h (by omega)
  have HS := Lib.hid hS
  have H := Lib.hid (And.intro hst (And.intro hp (And.intro hp5 hxr)))
  have HD := Lib.hid h.d
  have hsz := h.W.sz
  have hws : IntKind.u32.wrap (r.sz : Int) = r.sz := by rw [IntKind.wrap_u32']; omega
  generalize r.wh = a at hHL HS
  clear h hp hp5 hE hS hst hxr hsz
  go_enter Tryd.func56, Tryd.ntmps56
  go_wp2_with fail
  with_reducible refine hHL.out.mono ?_
  rintro e w0 ⟨rfl, m0, hw0⟩
  have HB0 := Lib.hid (show Below w.heap.size w w0 from by subst hw0; exact Qt.below ⟨m0, rfl⟩)
  clear hw0
  go_wp2_with fail
  with_reducible refine (HS.out _ HB0.out).mono ?_
  rintro e w1 ⟨rfl, hq⟩
  have HQ := Lib.hid hq
  have q2 := (hq.2.1.end H.out.2.2.1).c2
  have q8 := hq.2.1.let H.out.2.2.1 0 (by omega)
  rw [Nat.add_zero] at q8
  have z8 := hq.2.1.fz 8
  clear hq
  go_wp2_with fail
  go_region_law (fail)
  all_goals
    go_wp2_with fail
    go_ret2
    obtain ⟨⟨c', h1, h1', h1m⟩, h2, h3⟩ := HQ.out
    refine ⟨3, er, rfl, ?_, ⟨c', h1, h1', (h1m.setB HD.out.gB HD.out.bB _ _).drew⟩, v, ?_, (SS.set h3 _ _).trans (Chg.of_below ((Below.refl _ _).drew)), .inl rfl⟩
    · rcases H.out.1 with ⟨h4, h5⟩ | ⟨h4, h5⟩
      · rw [if_pos h4, h5, Rv.go2 H.out.2.1]
      · rw [if_neg h4, h5]
    · have h6 := (h2.setL H.out.2.2.1 0 8 rfl (by omega) (min (max x 1) (r.sz : Int))).drew
      rcases H.out.1 with ⟨h4, h5⟩ | ⟨h4, h5⟩
      · rw [h5, Rv.go2 H.out.2.1]; exact h6.think H.out.2.2.1 3
      · rw [h5]; exact h6.over rfl rfl rfl rfl rfl rfl
theorem ReceiverAt.pass {w w' : World} {B : Nat} {v : Value} {q : Nat} {r : Rv} {m : Nat} (h : ReceiverAt w B v q r) (hp : r.ph < 5) (e : w' = (w.setCell ⟨B, 5, none⟩ (.int .i64 ((r.pa : Int) + 1))).drewN m) : ReceiverAt w' B v q { r with pa := r.pa + 1 } := by
  subst e
  exact (h.setP hp (r.pa + 1) _ (by omega)).drewN m
theorem ReceiverAt.last {w w' : World} {B : Nat} {v : Value} {q : Nat} {r : Rv} {m : Nat} (h : ReceiverAt w B v q r) (hp : r.ph < 5) (e : w' = ((w.setCell ⟨B, 5, none⟩ (.int .i64 ((r.pa : Int) + 1))).drewN m).setCell ⟨B, 5, none⟩ (.int .i64 0)) : ReceiverAt w' B v q { r with pa := 0, ph := 4 } := by
  subst e
  exact (((h.setP hp (r.pa + 1) _ (by omega)).drewN m).setP hp 0 0 rfl).think hp 4
set_option maxHeartbeats 4000000 in
set_option maxRecDepth 100000 in
theorem ract3 (h : PreR w g b n B v q r f c) (hp : r.ph = 3) :
    Calls Tryd.prog 57 #[.pointer (some ⟨B, 0, none⟩), .pointer (some ⟨g, 0, none⟩)] w fun e w' => ActR g b n B v q r f c w e w' := by
  have hp5 : r.ph < 5 := by omega
  have hE := h.T.end hp5
  have hsz := h.W.sz
  have hl0 := h.W.ld0 (by omega) hp5
  have hpa := (h.W.pa hp5).2 hp
  obtain ⟨N, hN⟩ : ∃ N : Nat, r.ld 0 = N := ⟨(r.ld 0).toNat, by omega⟩
  rw [hN, Int.toNat_natCast] at hpa
  have hN32 : N ≤ 32 := by omega
  have hn8 := need_le hN32
  have hHL := Lib.hid (word_any B r.at' r.pl r.sz r.oth r.own r.pa w hE h.W.ar h.W.pl h.W.sz.2 h.W.own (by omega))
  rw [← Rv.wh3 hp] at hHL
  obtain ⟨x, er, hxr, hst, hS⟩ := rload_at B g b n v q r f c w h (by omega)
  have HS := Lib.hid hS
  have H := Lib.hid (And.intro hst (And.intro hp (And.intro hp5 hxr)))
  have HD := Lib.hid h.d
  have hi0 : (0 : Int) ≤ 1 + (r.pa : Int) := by omega
  have hi1 : 1 + (r.pa : Int) < 9 := by omega
  have hi2 : (1 + (r.pa : Int)).toNat = 1 + r.pa := by omega
  have hi3 : IntKind.i64.wrap (1 + (r.pa : Int)) = 1 + (r.pa : Int) := IntWalk.i64_in _ (by omega)
  have HN := Lib.hid (And.intro hN (And.intro hN32 (And.intro hn8 hpa)))
  generalize r.wh = a at hHL HS
  clear h hp hp5 hE hS hst hxr hsz hl0 hpa hN hN32 hn8
  go_enter Tryd.func57, Tryd.ntmps57
  go_wp2_with fail
  with_reducible refine hHL.out.mono ?_
  rintro e w0 ⟨rfl, m0, hw0⟩
  have HB0 := Lib.hid (show Below w.heap.size w w0 from by subst hw0; exact Qt.below ⟨m0, rfl⟩)
  clear hw0
  go_wp2_with fail
  with_reducible refine (HS.out _ HB0.out).mono ?_
  rintro e w1 ⟨rfl, hq⟩
  have HQ := Lib.hid hq
  have q5 := (hq.2.1.end H.out.2.2.1).c5
  have q8 := hq.2.1.let H.out.2.2.1 (1 + r.pa) (by omega)
  have z8 := hq.2.1.fz (8 + (1 + r.pa))
  clear hq
  go_wp2_with fail
  go_region_law (fail)
  all_goals
    have HT2 := Lib.hid ((HQ.out.2.1.setL H.out.2.2.1 (1 + r.pa) _ rfl (by omega) x).drew)
    have y0 := HT2.out.let H.out.2.2.1 0 (by omega)
    have HM2 := Lib.hid (show ∃ c', c ≤ c' ∧ c' ≤ c + 1 ∧ MemAt ((w1.setCell ⟨B, 8 + (1 + r.pa), none⟩ (.int .u32 x)).drew) g b n (r.word n f) c' from by
      obtain ⟨⟨c', h1, h1', h1m⟩, _, _⟩ := HQ.out
      exact ⟨c', h1, h1', (h1m.setB HD.out.gB HD.out.bB _ _).drew⟩)
    have HC2 := Lib.hid ((SS.set HQ.out.2.2 (8 + (1 + r.pa)) (.int .u32 x)).trans (Chg.of_below ((Below.refl _ _).drew)))
    have hu0 : upd r.ld (1 + r.pa) x 0 = (N : Int) := by rw [upd_other (by omega)]; exact HN.out.1
    rw [Nat.add_zero] at y0
    simp only [hu0] at y0
    obtain ⟨w2, hw2⟩ : ∃ w2, w2 = (w1.setCell ⟨B, 8 + (1 + r.pa), none⟩ (.int .u32 x)).drew := ⟨_, rfl⟩
    rw [← hw2] at HT2 HM2 HC2 y0 ⊢
    clear hw2 hu0 q5 q8 z8
    by_cases hlt : r.pa + 1 < need N
    · have HPM := Lib.hid (fun W (hW : Below w2.heap.size w2 W) => pass_more B r.at' r.pl r.sz r.oth r.own r.pa W N N rfl ((HT2.out.end H.out.2.2.1).keep hW) HN.out.2.1 hlt)
      have HLT := Lib.hid hlt
      clear hlt
      go_wp2_with fail
      go_region_law ((go_simp; refine (HPM.out _ (by repeat (first | exact Below.refl _ _ | refine Below.drew ?_ | refine below_drewN ?_ _))).mono ?_
                      rintro e w5 ⟨rfl, m5, hw5⟩
                      have HW5 := Lib.hid hw5
                      clear hw5))
      all_goals
        go_wp2_with fail
        go_ret2
        obtain ⟨c', h1, h1', h1m⟩ := HM2.out
        refine ⟨3, er, rfl, ?_, ⟨c', h1, h1', mem_more (w1 := w2.drew) h1m.drew HD.out.gB HD.out.bB HW5.out⟩, v, ?_, chg_more (w1 := w2.drew) (HC2.out.trans (Chg.of_below ((Below.refl _ _).drew))) HW5.out, .inl rfl⟩
        · rcases H.out.1 with ⟨h4, h5⟩ | ⟨h4, h5⟩
          · rw [if_pos h4, h5, Rv.go3 H.out.2.1, HN.out.1, Int.toNat_natCast, if_pos HLT.out]; exact H.out.2.1.symm
          · rw [if_neg h4, h5]
        · have h6 := HT2.out.drew.pass H.out.2.2.1 HW5.out
          rcases H.out.1 with ⟨h4, h5⟩ | ⟨h4, h5⟩
          · rw [h5, Rv.go3 H.out.2.1, HN.out.1, Int.toNat_natCast, if_pos HLT.out]; exact h6
          · rw [h5]; exact h6.over rfl rfl rfl rfl rfl rfl
    · have HPM := Lib.hid (fun W (hW : Below w2.heap.size w2 W) => pass_last B r.at' r.pl r.sz r.oth r.own r.pa W N N rfl ((HT2.out.end H.out.2.2.1).keep hW) HN.out.2.1 hlt (by have := HN.out; omega))
      have HLT := Lib.hid hlt
      clear hlt
      go_wp2_with fail
      go_region_law ((go_simp; refine (HPM.out _ (by repeat (first | exact Below.refl _ _ | refine Below.drew ?_ | refine below_drewN ?_ _))).mono ?_
                      rintro e w5 ⟨rfl, m5, hw5⟩
                      have HW5 := Lib.hid hw5
                      clear hw5))
      all_goals
        go_wp2_with fail
        go_ret2
        obtain ⟨c', h1, h1', h1m⟩ := HM2.out
        refine ⟨4, er, rfl, ?_, ⟨c', h1, h1', mem_last (w1 := w2.drew) h1m.drew HD.out.gB HD.out.bB HW5.out⟩, v, ?_, chg_last (w1 := w2.drew) (HC2.out.trans (Chg.of_below ((Below.refl _ _).drew))) HW5.out, .inl rfl⟩
        · rcases H.out.1 with ⟨h4, h5⟩ | ⟨h4, h5⟩
          · rw [if_pos h4, h5, Rv.go3 H.out.2.1, HN.out.1, Int.toNat_natCast, if_neg HLT.out]
          · rw [if_neg h4, h5]
        · have h6 := HT2.out.drew.last H.out.2.2.1 HW5.out
          rcases H.out.1 with ⟨h4, h5⟩ | ⟨h4, h5⟩
          · rw [h5, Rv.go3 H.out.2.1, HN.out.1, Int.toNat_natCast, if_neg HLT.out]; exact h6
          · rw [h5]; exact h6.over rfl rfl rfl rfl rfl rfl
set_option maxHeartbeats 4000000 in
set_option maxRecDepth 100000 in
theorem ract4 (h : PreR w g b n B v q r f c) (hp : r.ph = 4) :
    Calls Tryd.prog 58 #[.pointer (some ⟨B, 0, none⟩), .pointer (some ⟨g, 0, none⟩)] w fun e w' => ActR g b n B v q r f c w e w' := by
  have hp5 : r.ph < 5 := by omega
  have hE := h.T.end hp5
  have h4 := hE.c4
  have h0 := hE.c0
  rw [← Rv.wh4 hp] at h0
  obtain ⟨er, f', hf', hst, hS⟩ := rstore_at B g b n v q r f c w h hp5 (inc r.own) (Rv.puts4 hp)
  have HS := Lib.hid hS
  have H := Lib.hid (And.intro hf' (And.intro hst (And.intro hp hp5)))
  have HD := Lib.hid h.d
  have HW := Lib.hid h.W
  have hinc : IntKind.u32.wrap (r.own + 1) = inc r.own := inc_wrap _
  generalize r.wh = a at h0 HS
  clear h hp hp5 hE hS hf' hst
  go_enter Tryd.func58, Tryd.ntmps58
  go_wp2_with fail
  go_region_law ((go_simp; refine (HS.out _ (by repeat (first | exact Below.refl _ _ | refine Below.drew ?_ | refine below_drewN ?_ _))).mono ?_
                  rintro e w4 ⟨rfl, hq⟩
                  have HQ := Lib.hid hq
                  clear hq))
  all_goals
    obtain ⟨⟨c', h1, h1', h1m⟩, h2, h3⟩ := HQ.out
    have HR := Lib.hid (And.intro (And.intro h1 h1') (And.intro h1m (And.intro h2 h3)))
    clear h1 h1' h1m h2 h3
    by_cases her : er = 0
    · have h5 := H.out.2.1.elim (fun x => x.2) (fun x => absurd her x.1)
      rw [Rv.go4 H.out.2.2.1] at h5
      have H5 := Lib.hid h5
      subst her
      clear h5
      have hl0 := HW.out.ld0 (by rw [H.out.2.2.1]; omega) H.out.2.2.2
      have hsz := HW.out.sz
      have HTX := Lib.hid (text_any B 8 r.ld (r.ld 0).toNat w4 (HR.out.2.2.1.let H.out.2.2.2) (by omega) (by omega) (by omega) HW.out.ld)
      clear hl0 hsz
      go_wp2_with fail
      with_reducible refine HTX.out.mono ?_
      rintro e w5 ⟨rfl, hB5⟩
      have HT5 := Lib.hid (HR.out.2.2.1.keep hB5)
      have HM5 := Lib.hid (HR.out.2.1.keep hB5)
      have HC5 := Lib.hid (HR.out.2.2.2.trans (Chg.of_below hB5))
      clear hB5
      go_wp2_with fail
      with_reducible refine (rclose_any B v q r w5 _ HT5.out H.out.2.2.2 HW.out).mono ?_
      rintro e w6 hcl
      have HCL := Lib.hid hcl
      obtain ⟨rfl, _⟩ := hcl
      go_wp2_with fail
      go_ret2
      exact ⟨_, 0, rfl, by rw [if_pos rfl, H5.out], RcvQ.close B g b n v q r f c HD.out HC5.out (by rw [← H.out.1]; exact HM5.out) HR.out.1 H5.out HCL.out⟩
    · have h5 := H.out.2.1.elim (fun x => absurd x.1 her) (fun x => x.2)
      have H5 := Lib.hid h5
      clear h5
      go_wp2_with fail
      go_ret2
      refine ⟨5, er, rfl, by rw [if_neg her, H5.out], ⟨c', HR.out.1.1, HR.out.1.2, by rw [← H.out.1]; exact HR.out.2.1⟩, v, ?_, HR.out.2.2.2, .inl rfl⟩
      rw [H5.out]
      exact HR.out.2.2.1.lost
/-- The step that is stored, performed. -/
theorem ract_any (h : PreR w g b n B v q r f c) (hp : r.ph < 5) : ∃ K, nextR r.ph = .func (.func K) #[] #[] ∧ Enters K ∧
    Calls Tryd.prog K #[.pointer (some ⟨B, 0, none⟩), .pointer (some ⟨g, 0, none⟩)] w fun e w' => ActR g b n B v q r f c w e w' := by
  have h5 : r.ph = 0 ∨ r.ph = 1 ∨ r.ph = 2 ∨ r.ph = 3 ∨ r.ph = 4 := by omega
  rcases h5 with e | e | e | e | e
  · exact ⟨54, by rw [e]; rfl, enters_of Tryd.func54 (by kernel_rfl) rfl, ract0 B g b n v q r f c w h e⟩
  · exact ⟨55, by rw [e]; rfl, enters_of Tryd.func55 (by kernel_rfl) rfl, ract1 B g b n v q r f c w h e⟩
  · exact ⟨56, by rw [e]; rfl, enters_of Tryd.func56 (by kernel_rfl) rfl, ract2 B g b n v q r f c w h e⟩
  · exact ⟨57, by rw [e]; rfl, enters_of Tryd.func57 (by kernel_rfl) rfl, ract3 B g b n v q r f c w h e⟩
  · exact ⟨58, by rw [e]; rfl, enters_of Tryd.func58 (by kernel_rfl) rfl, ract4 B g b n v q r f c w h e⟩
set_option maxHeartbeats 2000000 in
set_option maxRecDepth 100000 in
/-- The action and what comes behind it. -/
theorem rafter_any (K : Nat) (R : Nat) (Q : World → Prop) (hK : Enters K)
    (hcall : Calls Tryd.prog K #[.pointer (some ⟨B, 0, none⟩), .pointer (some ⟨g, 0, none⟩)] w fun e w' => ∃ (pr : Nat) (er : Int), e = .returned (.tuple #[.int .i64 pr, .int .i64 er]) ∧ (if er = 0 then pr else 5) = R ∧ Q w') :
    Calls Tryd.prog 45 #[.pointer (some ⟨B, 0, none⟩), .pointer (some ⟨g, 0, none⟩), .func (.func K) #[] #[]] w fun e w' => e = .returned (.int .i64 R) ∧ Q w' := by
  have HC := Lib.hid hcall
  have hk : ∀ (args : Array Value) (w : World), (callFunc K args).run Tryd.prog w = .ok (.enter K args) w := hK
  clear hcall hK
  go_enter Tryd.func45, Tryd.ntmps45
  go_wp2_with fail
  with_reducible refine HC.out.mono ?_
  rintro e w1 ⟨pr, er, rfl, hR, hQ⟩
  have HQ := Lib.hid hQ
  by_cases her : er = 0
  · rw [if_pos her] at hR
    subst her hR
    clear hQ hk
    go_wp2_with fail
    go_ret
    exact ⟨rfl, HQ.out⟩
  · rw [if_neg her] at hR
    subst hR
    clear hQ hk
    go_wp2_with fail
    go_ret
    exact ⟨rfl, HQ.out⟩
/-- What a step leaves of a receiver. -/
def StepR (g b n B : Nat) (v : Value) (r : Rv) (f : Nat → Int) (c : Int) (w w' : World) : Prop :=
  (∃ c', c ≤ c' ∧ c' ≤ c + 1 ∧ MemAt w' g b n (r.word n f) c') ∧ ∃ v', ReceiverAt w' B v' (r.step n f).ph (r.step n f) ∧ Chg (SS g b B v) w w' ∧ (v'.ownBlock = v.ownBlock ∨ ∃ k, v'.ownBlock = some k ∧ w.heap.size ≤ k)
theorem neq83 (K : FuncId) (w : World) : (binOp .neq 83 (.func (.func K) #[] #[]) .nilFunc).run Tryd.prog w = .ok (.bool true) w := by kernel_rfl
theorem eql83 (K : FuncId) (w : World) : (binOp .eql 83 (.func (.func K) #[] #[]) .nilFunc).run Tryd.prog w = .ok (.bool false) w := by kernel_rfl
theorem neq83n (w : World) : (binOp .neq 83 .nilFunc .nilFunc).run Tryd.prog w = .ok (.bool false) w := by kernel_rfl
theorem eql83n (w : World) : (binOp .eql 83 .nilFunc .nilFunc).run Tryd.prog w = .ok (.bool true) w := by kernel_rfl
theorem nextR_func {q : Nat} (h : q < 5) : ∃ K, nextR q = .func (.func K) #[] #[] := by
  have h5 : q = 0 ∨ q = 1 ∨ q = 2 ∨ q = 3 ∨ q = 4 := by omega
  rcases h5 with rfl | rfl | rfl | rfl | rfl
  all_goals exact ⟨_, rfl⟩
theorem nextR_nil {q : Nat} (h : 5 ≤ q) : nextR q = .nilFunc := by
  match q, h with
  | k + 5, _ => rfl
set_option maxHeartbeats 4000000 in
set_option maxRecDepth 100000 in
/-- A step of a receiver. -/
theorem receiver_step (h : PreR w g b n B v r.ph r f c) :
    Calls Tryd.prog 20 #[.pointer (some ⟨B, 0, none⟩), .pointer (some ⟨g, 0, none⟩)] w fun e w' => e = .returned (.bool (decide (5 ≤ (r.step n f).ph))) ∧ StepR g b n B v r f c w w' := by
  have h6 := h.T.c6
  by_cases hp : r.ph < 5
  · obtain ⟨K, hK, hKe, hact⟩ := ract_any B g b n v r.ph r f c w h hp
    have hR5 := (h.W.step h.ff).ph
    have HA := Lib.hid (rafter_any B g w K (r.step n f).ph (RcvQ g b n B v r.ph r f c w) hKe hact)
    obtain ⟨R, hR⟩ : ∃ R, R = (r.step n f).ph := ⟨_, rfl⟩
    rw [← hR] at HA hR5 ⊢
    rw [hK] at h6
    have HN := Lib.hid (fun W => receives_any R W hR5)
    have HD := Lib.hid h.d
    have HR := Lib.hid hR
    have n1 := neq83
    have n2 := eql83
    have n4 := eql83n
    have fin : ∀ w', RcvQ g b n B v r.ph r f c w w' → StepR g b n B v r f c w (w'.setCell ⟨B, 6, none⟩ (nextR R)) := fun w' hq => by
      obtain ⟨⟨c', h1, h2, h3⟩, v', h4, h5, h6⟩ := hq
      refine ⟨⟨c', h1, h2, h3.setB HD.out.gB HD.out.bB _ _⟩, v', ?_, SS.set h5 _ _, h6⟩
      rw [← HR.out]
      exact h4.next R
    have FIN := Lib.hid fin
    clear h hp hK hKe hact hR fin
    go_enter Tryd.func20, Tryd.ntmps20
    go_wp2_with fail
    with_reducible refine HA.out.mono ?_
    rintro e w1 ⟨rfl, hq⟩
    have HQ := Lib.hid hq
    obtain ⟨_, v', hT', _, _⟩ := hq
    have k6 := hT'.c6
    have z6 := hT'.fz 6
    clear hT' h6
    go_wp2_with fail
    with_reducible refine (HN.out _).mono ?_
    rintro e w2 ⟨rfl, rfl⟩
    have HFI := Lib.hid (FIN.out _ HQ.out)
    by_cases h5 : 5 ≤ R
    · rw [nextR_nil h5] at HFI ⊢
      go_wp2_with fail
      go_ret
      exact ⟨by rw [decide_eq_true h5]; rfl, HFI.out⟩
    · obtain ⟨K2, hK2⟩ := nextR_func (q := R) (by omega)
      rw [hK2] at HFI ⊢
      go_wp2_with fail
      go_ret
      exact ⟨by rw [decide_eq_false h5]; rfl, HFI.out⟩
  · have h5 : 5 ≤ r.ph := by omega
    have hst : r.step n f = r := by unfold Rv.step; rw [if_pos h5]
    have hwd : r.word n f = f := by unfold Rv.word; rw [if_pos h5]
    have n3 := neq83n
    have n4 := eql83n
    rw [nextR_nil h5] at h6
    have H := Lib.hid h
    have HH := Lib.hid (And.intro hst (And.intro hwd h5))
    clear h hp hst hwd h5
    go_enter Tryd.func20, Tryd.ntmps20
    go_wp2_with fail
    go_ret
    refine ⟨by rw [HH.out.1, decide_eq_true HH.out.2.2]; rfl, ⟨c, Int.le_refl _, by omega, by rw [HH.out.2.1]; exact H.out.M⟩, v, ?_, Chg.refl _, .inl rfl⟩
    rw [HH.out.1]
    exact H.out.T
end
end Go.Proofs.YtnmobalgghggnaaDoor
