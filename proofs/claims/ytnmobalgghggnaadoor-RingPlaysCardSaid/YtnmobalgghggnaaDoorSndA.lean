/-
  The five steps of a sender.
-/
import Derived.Test.YtnmobalgghggnaaDoorSnd
namespace Go.Proofs.YtnmobalgghggnaaDoor
open Go.RowKit

/-- The memory lies apart from the sender. -/
structure Dis (g b B LB : Nat) (v : Value) : Prop where
  gB : g ≠ B
  bB : b ≠ B
  gL : g ≠ LB
  bL : b ≠ LB
  gv : v.ownBlock ≠ some g
  bv : v.ownBlock ≠ some b
theorem SenderAt.over {w : World} {B LB : Nat} {v : Value} {q : Nat} {s s' : Sd} (h : SenderAt w B LB v q s) (h1 : s'.at' = s.at') (h2 : s'.pl = s.pl) (h3 : s'.sz = s.sz) (h4 : s'.L = s.L) (h5 : s'.sent = s.sent) (h6 : s'.ph = 5) : SenderAt w B LB v q s' := by
  obtain ⟨o, x, p, h7, _⟩ := h.e
  obtain ⟨A, h8, h9⟩ := h.c7
  exact ⟨⟨o, x, p, by rw [h1, h2, h3]; exact h7, fun e => by omega⟩, h.c6, ⟨A, by rw [h4, h5]; exact h8, by rw [h4, h5]; exact h9⟩, h.c8, by rw [h4]; exact h.lt, by rw [h5]; exact h.own, h.ne, h.lb⟩
theorem SenderAt.else {g b B LB : Nat} {v : Value} {q : Nat} {s : Sd} {w w' : World} (h : SenderAt w B LB v q s) (hE : Else g b w w') (hd : Dis g b B LB v) : SenderAt w' B LB v q s :=
  h.chg (Chg.of_else hE) (fun e => e.elim (fun e => hd.gB e.symm) fun e => hd.bB e.symm) (fun e => e.elim (fun e => hd.gL e.symm) fun e => hd.bL e.symm) (fun x hx e => e.elim (fun e => hd.gv (by rw [hx, e])) fun e => hd.bv (by rw [hx, e]))
/-- What a step leaves. -/
def SndQ (g b n B LB : Nat) (v : Value) (q : Nat) (s : Sd) (f : Nat → Int) (c : Int) (w w' : World) : Prop :=
  (∃ c', c ≤ c' ∧ c' ≤ c + 1 ∧ MemAt w' g b n (s.word n f) c') ∧ ∃ v', SenderAt w' B LB v' q (s.step n f) ∧ Chg (SS g b B v) w w' ∧ (v'.ownBlock = v.ownBlock ∨ ∃ k, v'.ownBlock = some k ∧ w.heap.size ≤ k)
/-- What it answers. -/
def ActP (g b n B LB : Nat) (v : Value) (q : Nat) (s : Sd) (f : Nat → Int) (c : Int) (w : World) (e : Ending) (w' : World) : Prop :=
  ∃ (pr : Nat) (er : Int), e = .returned (.tuple #[.int .i64 pr, .int .i64 er]) ∧ (if er = 0 then pr else 5) = (s.step n f).ph ∧ SndQ g b n B LB v q s f c w w'
theorem Sd.step_no {n : Nat} {f : Nat → Int} {s : Sd} (hi : ¬ (0 ≤ s.wh ∧ s.wh < n)) (hp : s.ph < 5) : s.step n f = { s with ph := 5 } := by unfold Sd.step; rw [if_neg (by omega), inM_ne hi]; rfl
theorem Sd.word_no {n : Nat} {f : Nat → Int} {s : Sd} (hi : ¬ (0 ≤ s.wh ∧ s.wh < n)) (hp : s.ph < 5) : s.word n f = f := by unfold Sd.word; rw [if_neg (by omega), inM_ne hi]; rfl
theorem Sd.step_yes {n i : Nat} {f : Nat → Int} {s : Sd} (hi : s.wh = i) (hm : i < n) (hp : s.ph < 5) : s.step n f = s.go (f i) := by unfold Sd.step; rw [if_neg (by omega), inM_of (by omega), hi]; rfl
theorem Sd.word_yes {n i : Nat} {f : Nat → Int} {s : Sd} (hi : s.wh = i) (hm : i < n) (hp : s.ph < 5) : s.word n f = upd f i (s.puts (f i)) := by unfold Sd.word; rw [if_neg (by omega), inM_of (by omega), hi]; rfl
theorem setF_upd0 (f : Nat → Int) (i : Nat) : setF f i (afterS 0 0 0 (f i)) = f := upd_self f i
theorem setF_upd1 (f : Nat → Int) (i : Nat) (x : Int) : setF f i (afterS 1 0 x (f i)) = upd f i x := rfl
theorem SS.e {g b B : Nat} {v : Value} {w w' : World} (h : Else g b w w') : Chg (SS g b B v) w w' := (Chg.of_else h).mono fun _ hk => hk.elim .inl fun e => .inr (.inl e)
theorem SS.set {g b B : Nat} {v : Value} {w w' : World} (h : Chg (SS g b B v) w w') (j : Nat) (u : Value) : Chg (SS g b B v) w (w'.setCell ⟨B, j, none⟩ u) := h.set (a := ⟨B, j, none⟩) (.inr (.inr (.inl rfl))) u
theorem MemAt.setB {w : World} {g b n B : Nat} {f : Nat → Int} {c : Int} (h : MemAt w g b n f c) (h1 : g ≠ B) (h2 : b ≠ B) (j : Nat) (u : Value) : MemAt (w.setCell ⟨B, j, none⟩ u) g b n f c :=
  h.setOut (a := ⟨B, j, none⟩) (fun e => h1 e.symm) (fun e => h2 e.symm) u
theorem Sd.wh0 {s : Sd} (h : s.ph = 0) : s.wh = s.at' := by cases s; cases h; rfl
theorem Sd.wh1 {s : Sd} (h : s.ph = 1) : s.wh = s.at' + 1 := by cases s; cases h; rfl
theorem Sd.wh2 {s : Sd} (h : s.ph = 2) : s.wh = base s.at' s.pl s.sz s.own := by cases s; cases h; rfl
theorem Sd.wh3 {s : Sd} (h : s.ph = 3) : s.wh = base s.at' s.pl s.sz s.own + 1 + s.pa := by cases s; cases h; rfl
theorem Sd.wh4 {s : Sd} (h : s.ph = 4) : s.wh = s.at' + 1 := by cases s; cases h; rfl
theorem Sd.puts01 {s : Sd} {x : Int} (h : s.ph = 0 ∨ s.ph = 1) : s.puts x = x := by rcases h with h | h <;> (cases s; cases h; rfl)
theorem Sd.puts2 {s : Sd} {x : Int} (h : s.ph = 2) : s.puts x = s.cur.size := by cases s; cases h; rfl
theorem Sd.puts3 {s : Sd} {x : Int} (h : s.ph = 3) : s.puts x = wordOf s.cur s.pa := by cases s; cases h; rfl
theorem Sd.puts4 {s : Sd} {x : Int} (h : s.ph = 4) : s.puts x = inc s.own := by cases s; cases h; rfl
theorem Sd.Wf.setOwn {s : Sd} (h : s.Wf) {x : Int} (hx : 0 ≤ x ∧ x < 4294967296) : ({ s with own := x } : Sd).Wf := ⟨h.ar, h.pl, h.sz, h.ms, h.few, h.k, h.ph, h.more, hx, h.oth, h.pa⟩
/-- All that a step begins with. -/
structure Pre (w : World) (g b n B LB : Nat) (v : Value) (q : Nat) (s : Sd) (f : Nat → Int) (c : Int) : Prop where
  T : SenderAt w B LB v q s
  W : s.Wf
  d : Dis g b B LB v
  G : GOk w
  M : MemAt w g b n f c
  nn : n ≤ 4096
  cc : 0 ≤ c ∧ c ≤ 1000000
  ff : U32 n f
section
variable (B LB g b n : Nat) (v : Value) (q : Nat) (s : Sd) (f : Nat → Int) (c : Int) (w : World)
set_option maxHeartbeats 4000000 in
set_option maxRecDepth 100000 in
theorem act0 (h : Pre w g b n B LB v q s f c) (hp : s.ph = 0) :
    Calls Tryd.prog 49 #[.pointer (some ⟨B, 0, none⟩), .pointer (some ⟨g, 0, none⟩)] w fun e w' => ActP g b n B LB v q s f c w e w' := by
  have hp5 : s.ph < 5 := by omega
  have hE := h.T.end hp5
  have k0 := hE.c0
  have H := Lib.hid h
  have HP := Lib.hid hp
  have HP5 := Lib.hid hp5
  have hwh : Hid (s.wh = s.at') := Lib.hid (Sd.wh0 hp)
  by_cases hi : 0 ≤ s.at' ∧ s.at' < n
  · obtain ⟨i, hi'⟩ : ∃ i : Nat, s.at' = i := ⟨s.at'.toNat, by omega⟩
    have him : i < n := by omega
    have HA := Lib.hid (load_yes i g b n f c w h.G h.M h.nn him h.cc)
    have HI := Lib.hid (And.intro hi' him)
    rw [hi'] at k0
    clear h hp hp5 hE hi him
    go_enter Tryd.func49, Tryd.ntmps49
    go_wp2_with fail
    with_reducible refine HA.out.mono ?_
    rintro e w1 ⟨rfl, hM1, hE1⟩
    have HT1 := Lib.hid (H.out.T.else hE1 H.out.d)
    have q3 := (HT1.out.end HP5.out).c3
    have z3 := HT1.out.fz 3
    have HM1 := Lib.hid hM1
    have HE1 := Lib.hid hE1
    clear hM1 hE1 k0
    go_wp2_with fail
    go_ret2
    have hM := HM1.out
    rw [setF_upd0] at hM
    refine ⟨1, 0, rfl, ?_, ⟨c + 1, by omega, Int.le_refl _, ?_⟩, v, ?_, SS.set (SS.e HE1.out) _ _, .inl rfl⟩
    · rw [if_pos rfl, Sd.step_yes (hwh.out.trans HI.out.1) HI.out.2 HP5.out, Sd.go0 HP.out]
    · rw [Sd.word_yes (hwh.out.trans HI.out.1) HI.out.2 HP5.out]
      rw [Sd.puts01 (.inl HP.out), upd_self]
      exact hM.setB H.out.d.gB H.out.d.bB _ _
    · rw [Sd.step_yes (hwh.out.trans HI.out.1) HI.out.2 HP5.out, Sd.go0 HP.out]
      exact (HT1.out.setO HP5.out (f i)).think HP5.out 1
  · have HA := Lib.hid (load_no s.at' g b n f c w h.G h.M h.nn hi)
    have HI := Lib.hid hi
    clear h hp hp5 hE hi
    go_enter Tryd.func49, Tryd.ntmps49
    go_wp2_with fail
    with_reducible refine HA.out.mono ?_
    rintro e w1 ⟨rfl, hB1⟩
    have HT1 := Lib.hid (H.out.T.keep hB1)
    have q3 := (HT1.out.end HP5.out).c3
    have z3 := HT1.out.fz 3
    have HB1 := Lib.hid hB1
    clear hB1 k0
    go_wp2_with fail
    go_ret2
    have hno : ¬ (0 ≤ s.wh ∧ s.wh < n) := by rw [hwh.out]; exact HI.out
    refine ⟨1, 81, rfl, ?_, ⟨c, Int.le_refl _, by omega, ?_⟩, v, ?_, SS.set (Chg.of_below HB1.out) _ _, .inl rfl⟩
    · rw [if_neg (by decide), Sd.step_no hno HP5.out]
    · rw [Sd.word_no hno HP5.out]
      exact (H.out.M.keep HB1.out).setB H.out.d.gB H.out.d.bB _ _
    · rw [Sd.step_no hno HP5.out]
      exact (HT1.out.setO HP5.out _).over rfl rfl rfl rfl rfl rfl
theorem SndQ.close {x : Bool} {w w1 w2 : World} {e : Ending} {c' : Int} {s1 : Sd} (hd : Dis g b B LB v) (hC1 : Chg (SS g b B v) w w1) (hM : MemAt w1 g b n (s.word n f) c') (hc : c ≤ c' ∧ c' ≤ c + 1) (hst : s.step n f = s1.close x) (h : CloseP B LB v q s1 x w1 e w2) :
    SndQ g b n B LB v q s f c w w2 := by
  obtain ⟨_, v', h1, h2, h3⟩ := h
  have hs := hC1.size
  refine ⟨⟨c', hc.1, hc.2, h2.mem hM (fun e => e.elim hd.gB hd.gv) (fun e => e.elim hd.bB hd.bv)⟩, v', by rw [hst]; exact h1, hC1.trans (h2.mono fun k hk => .inr (.inr hk)), h3.imp id fun ⟨k, h4, h5⟩ => ⟨k, h4, by omega⟩⟩
set_option maxHeartbeats 4000000 in
set_option maxRecDepth 100000 in
theorem act1 (h : Pre w g b n B LB v q s f c) (hp : s.ph = 1) :
    Calls Tryd.prog 50 #[.pointer (some ⟨B, 0, none⟩), .pointer (some ⟨g, 0, none⟩)] w fun e w' => ActP g b n B LB v q s f c w e w' := by
  have hp5 : s.ph < 5 := by omega
  have hE := h.T.end hp5
  have H := Lib.hid h
  have HP := Lib.hid hp
  have HP5 := Lib.hid hp5
  have hwh : Hid (s.wh = s.at' + 1) := Lib.hid (Sd.wh1 hp)
  have HTA := Lib.hid (fun W (hW : EndAt W B s.at' s.pl s.sz s.oth s.own s.pa) => tail_any B s.at' s.oth s.own W s.pa s.pl s.sz hW h.W.ar)
  have HEN := Lib.hid hE
  by_cases hi : 0 ≤ s.at' + 1 ∧ s.at' + 1 < n
  · obtain ⟨i, hi'⟩ : ∃ i : Nat, s.at' + 1 = i := ⟨(s.at' + 1).toNat, by omega⟩
    have him : i < n := by omega
    have HA := Lib.hid (load_yes i g b n f c w h.G h.M h.nn him h.cc)
    have HI := Lib.hid (And.intro hi' him)
    have hfi := h.ff i him
    have hplr := h.W.pl.rng
    have hwp : IntKind.u32.wrap (s.pl : Int) = s.pl := by rw [IntKind.wrap_u32']; omega
    have hus : usedF s.oth (f i) = used s.oth (f i) := rfl
    have HUS := Lib.hid hus
    have HU := Lib.hid (fun W => used_any s.oth (f i) W)
    clear h hp hp5 hE hi him hus hfi hplr
    go_enter Tryd.func50, Tryd.ntmps50
    go_wp2_with fail
    with_reducible refine (HTA.out _ HEN.out).mono ?_
    rintro e w0 ⟨rfl, rfl⟩
    rw [HI.out.1]
    go_wp2_with fail
    with_reducible refine HA.out.mono ?_
    rintro e w1 ⟨rfl, hM1, hE1⟩
    have HT1 := Lib.hid (H.out.T.else hE1 H.out.d)
    have q3 := (HT1.out.end HP5.out).c3
    have q4 := (HT1.out.end HP5.out).c4
    have q1 := (HT1.out.end HP5.out).c1
    have z4 := HT1.out.fz 4
    have HM1 := Lib.hid hM1
    have HE1 := Lib.hid hE1
    clear hM1 hE1
    go_wp2_with fail
    have j4 := ((HT1.out.setX HP5.out (f i)).end HP5.out).c4
    have HT2 := Lib.hid (HT1.out.setX HP5.out (f i))
    clear q4
    go_quiet ((go_at_call 64; exact Calls.quiet_of_same ((HU.out _).mono fun _ _ ⟨h1, h2⟩ => ⟨h1, h2.symm⟩)))
    have hM := HM1.out
    rw [setF_upd0] at hM
    have hwd : s.word n f = f := by
      rw [Sd.word_yes (hwh.out.trans HI.out.1) HI.out.2 HP5.out]
      rw [Sd.puts01 (.inr HP.out), upd_self]
    have HM2 := Lib.hid (hM.setB H.out.d.gB H.out.d.bB 4 (.int .u32 (f i)))
    have HWD := Lib.hid hwd
    have HC2 := Lib.hid ((SS.set (v := v) (SS.e (B := B) HE1.out) 4 (.int .u32 (f i))).trans (Chg.of_below (Qt.below ⟨nq, rfl⟩)))
    have HT3 := Lib.hid (HT2.out.drewN nq)
    have HM3 := Lib.hid (HM2.out.keep (Qt.below ⟨nq, rfl⟩))
    obtain ⟨w3, hw3⟩ : ∃ w3, w3 = (w1.setCell ⟨B, 4, none⟩ (.int .u32 (f i))).drewN nq := ⟨_, rfl⟩
    rw [← hw3] at HC2 HT3 HM3 ⊢
    clear hM hwd hw3 j4 q3 q1
    have hst := Lib.hid (Sd.step_yes (f := f) (hwh.out.trans HI.out.1) HI.out.2 HP5.out)
    rw [Sd.go1 HP.out] at hst
    by_cases hx : (s.pl : Int) ≤ usedF s.oth (f i)
    · rw [if_pos (by rw [← HUS.out]; exact hx)] at hst
      have hfi := Lib.hid (H.out.W.setOwn (H.out.ff i HI.out.2))
      go_wp2_with fail
      with_reducible refine (sclose_any B LB v q _ w3 false HT3.out HP5.out hfi.out).mono ?_
      rintro e w4 hcl
      have HCL := Lib.hid hcl
      obtain ⟨rfl, _⟩ := hcl
      go_wp2_with fail
      go_ret2
      exact ⟨_, 0, rfl, by rw [if_pos rfl, hst.out], SndQ.close B LB g b n v q s f c H.out.d HC2.out (by rw [HWD.out]; exact HM3.out) (by omega) hst.out HCL.out⟩
    · rw [if_neg (by rw [← HUS.out]; exact hx)] at hst
      go_wp2_with fail
      go_ret2
      refine ⟨2, 0, rfl, by rw [if_pos rfl, hst.out], ⟨c + 1, by omega, Int.le_refl _, by rw [HWD.out]; exact HM3.out⟩, v, ?_, HC2.out, .inl rfl⟩
      rw [hst.out]
      exact HT3.out.think HP5.out 2
  · have HA := Lib.hid (load_no (s.at' + 1) g b n f c w h.G h.M h.nn hi)
    have HI := Lib.hid hi
    clear h hp hp5 hE hi
    go_enter Tryd.func50, Tryd.ntmps50
    go_wp2_with fail
    with_reducible refine (HTA.out _ HEN.out).mono ?_
    rintro e w0 ⟨rfl, rfl⟩
    go_wp2_with fail
    with_reducible refine HA.out.mono ?_
    rintro e w1 ⟨rfl, hB1⟩
    have HB1 := Lib.hid hB1
    clear hB1
    go_wp2_with fail
    go_ret2
    have hno : ¬ (0 ≤ s.wh ∧ s.wh < n) := by rw [hwh.out]; exact HI.out
    refine ⟨5, 81, rfl, ?_, ⟨c, Int.le_refl _, by omega, ?_⟩, v, ?_, Chg.of_below HB1.out, .inl rfl⟩
    · rw [if_neg (by decide), Sd.step_no hno HP5.out]
    · rw [Sd.word_no hno HP5.out]
      exact H.out.M.keep HB1.out
    · rw [Sd.step_no hno HP5.out]
      exact (H.out.T.keep HB1.out).lost
/-- What a store leaves, whether there is the word or not. -/
def StoQ (g b n B LB : Nat) (v : Value) (q : Nat) (s : Sd) (f' : Nat → Int) (c : Int) (w w' : World) : Prop :=
  (∃ c', c ≤ c' ∧ c' ≤ c + 1 ∧ MemAt w' g b n f' c') ∧ SenderAt w' B LB v q s ∧ Chg (SS g b B v) w w'
theorem store_at (h : Pre w g b n B LB v q s f c) (hp : s.ph < 5) (x : Int) (hx : s.puts (f s.wh.toNat) = x) : ∃ (er : Int) (f' : Nat → Int), f' = s.word n f ∧ (er = 0 ∧ s.step n f = s.go (f s.wh.toNat) ∨ er ≠ 0 ∧ s.step n f = { s with ph := 5 }) ∧
    ∀ W, Below w.heap.size w W → Calls Tryd.prog 17 #[.pointer (some ⟨g, 0, none⟩), .int .i64 s.wh, .int .u32 x] W fun e w' => e = .returned (.int .i64 er) ∧ StoQ g b n B LB v q s f' c w w' := by
  by_cases hi : 0 ≤ s.wh ∧ s.wh < n
  · obtain ⟨i, hi'⟩ : ∃ i : Nat, s.wh = i := ⟨s.wh.toNat, by omega⟩
    have him : i < n := by omega
    have ht : s.wh.toNat = i := by omega
    refine ⟨0, s.word n f, rfl, .inl ⟨rfl, ?_⟩, fun W hB => ?_⟩
    · rw [Sd.step_yes hi' him hp, ht]
    · rw [hi']
      refine (store_yes x i g b n f c W (h.G.keep hB) (h.M.keep hB) h.nn him h.cc).mono ?_
      rintro e w' ⟨he, hM, hE⟩
      refine ⟨he, ⟨c + 1, by omega, Int.le_refl _, ?_⟩, (h.T.keep hB).else hE h.d, (Chg.of_below hB).trans (SS.e hE)⟩
      rw [Sd.word_yes hi' him hp, ← ht, hx, ht]
      exact hM
  · refine ⟨81, s.word n f, rfl, .inr ⟨by decide, Sd.step_no hi hp⟩, fun W hB => ?_⟩
    refine (store_no x s.wh g b n f c W (h.G.keep hB) (h.M.keep hB) h.nn hi).mono ?_
    rintro e w' ⟨he, hB2⟩
    refine ⟨he, ⟨c, Int.le_refl _, by omega, ?_⟩, (h.T.keep hB).keep hB2, (Chg.of_below hB).trans (Chg.of_below hB2)⟩
    rw [Sd.word_no hi hp]
    exact (h.M.keep hB).keep hB2
theorem cur_at {s : Sd} : s.cur = s.L.getD s.sent.length ByteArray.empty := rfl
/-- Where the current letter lies. -/
theorem SenderAt.cur (h : SenderAt w B LB v q s) (hm : s.sent.length < s.L.length) : LetAt w LB (9 * s.sent.length) (letter s.cur) := h.lt _ hm
set_option maxHeartbeats 4000000 in
set_option maxRecDepth 100000 in
theorem act2 (h : Pre w g b n B LB v q s f c) (hp : s.ph = 2) :
    Calls Tryd.prog 51 #[.pointer (some ⟨B, 0, none⟩), .pointer (some ⟨g, 0, none⟩)] w fun e w' => ActP g b n B LB v q s f c w e w' := by
  have hp5 : s.ph < 5 := by omega
  have hm := h.W.more hp5
  have hE := h.T.end hp5
  obtain ⟨A, h7, hA⟩ := h.T.c7
  obtain rfl := hA hm
  have hL := h.T.cur B LB v q s w hm 0 (by omega)
  rw [Nat.add_zero] at hL
  have hHL := Lib.hid (fun W (hW : Below w.heap.size w W) => length_any B s.at' s.pl s.sz s.oth s.own W s.pa (hE.keep hW) h.W.ar h.W.pl h.W.sz.2 h.W.own)
  rw [← Sd.wh2 hp] at hHL
  obtain ⟨er, f', hf', hst, hS⟩ := store_at B LB g b n v q s f c w h hp5 s.cur.size (Sd.puts2 hp)
  have HS := Lib.hid hS
  have H := Lib.hid (And.intro hf' (And.intro hst (And.intro hp hp5)))
  obtain ⟨M, hM⟩ : ∃ M, M = s.L.length - s.sent.length := ⟨_, rfl⟩
  rw [← hM] at h7
  have hM0 : 0 < M := by omega
  have e0 : letter s.cur 0 = s.cur.size := rfl
  rw [e0] at hL
  generalize s.wh = a at hHL HS
  clear h hp hp5 hm hE hA hS hf' hst hM e0
  go_enter Tryd.func51, Tryd.ntmps51
  go_wp2_with fail
  go_region_law ((go_simp; first
    | (refine (hHL.out _ (by repeat (first | exact Below.refl _ _ | refine Below.drew ?_ | refine below_drewN ?_ _))).mono ?_
       rintro e w3 ⟨rfl, m, rfl⟩)
    | (refine (HS.out _ (by repeat (first | exact Below.refl _ _ | refine Below.drew ?_ | refine below_drewN ?_ _))).mono ?_
       rintro e w4 ⟨rfl, hq⟩
       have HQ := Lib.hid hq
       clear hq)))
  all_goals
    go_wp2_with fail
    go_ret2
    obtain ⟨h1, h2, h3⟩ := HQ.out
    refine ⟨3, er, rfl, ?_, by rw [← H.out.1]; exact h1, v, ?_, h3, .inl rfl⟩
    · rcases H.out.2.1 with ⟨h4, h5⟩ | ⟨h4, h5⟩
      · rw [if_pos h4, h5, Sd.go2 H.out.2.2.1]
      · rw [if_neg h4, h5]
    · rcases H.out.2.1 with ⟨h4, h5⟩ | ⟨h4, h5⟩
      · rw [h5, Sd.go2 H.out.2.2.1]; exact h2.think H.out.2.2.2 3
      · rw [h5]; exact h2.lost
theorem SenderAt.pass {w w' : World} {B LB : Nat} {v : Value} {q : Nat} {s : Sd} {m : Nat} (h : SenderAt w B LB v q s) (hp : s.ph < 5) (e : w' = (w.setCell ⟨B, 5, none⟩ (.int .i64 ((s.pa : Int) + 1))).drewN m) : SenderAt w' B LB v q { s with pa := s.pa + 1 } := by
  subst e
  exact (h.setP hp (s.pa + 1) _ (by omega)).drewN m
theorem SenderAt.last {w w' : World} {B LB : Nat} {v : Value} {q : Nat} {s : Sd} {m : Nat} (h : SenderAt w B LB v q s) (hp : s.ph < 5) (e : w' = ((w.setCell ⟨B, 5, none⟩ (.int .i64 ((s.pa : Int) + 1))).drewN m).setCell ⟨B, 5, none⟩ (.int .i64 0)) : SenderAt w' B LB v q { s with pa := 0, ph := 4 } := by
  subst e
  exact (((h.setP hp (s.pa + 1) _ (by omega)).drewN m).setP hp 0 0 rfl).think hp 4
theorem chg_more {g b B : Nat} {v : Value} {w w1 w' : World} {x : Int} {m : Nat} (h : Chg (SS g b B v) w w1) (e : w' = (w1.setCell ⟨B, 5, none⟩ (.int .i64 x)).drewN m) : Chg (SS g b B v) w w' := by
  subst e
  exact (SS.set h 5 _).trans (Chg.of_below (Qt.below ⟨m, rfl⟩))
theorem chg_last {g b B : Nat} {v : Value} {w w1 w' : World} {x : Int} {m : Nat} (h : Chg (SS g b B v) w w1) (e : w' = ((w1.setCell ⟨B, 5, none⟩ (.int .i64 x)).drewN m).setCell ⟨B, 5, none⟩ (.int .i64 0)) : Chg (SS g b B v) w w' := by
  subst e
  exact SS.set ((SS.set h 5 _).trans (Chg.of_below (Qt.below ⟨m, rfl⟩))) 5 _
theorem mem_more {g b n B : Nat} {f : Nat → Int} {c : Int} {w1 w' : World} {x : Int} {m : Nat} (h : MemAt w1 g b n f c) (h1 : g ≠ B) (h2 : b ≠ B) (e : w' = (w1.setCell ⟨B, 5, none⟩ (.int .i64 x)).drewN m) : MemAt w' g b n f c := by
  subst e
  exact (h.setB h1 h2 5 _).keep (Qt.below ⟨m, rfl⟩)
theorem mem_last {g b n B : Nat} {f : Nat → Int} {c : Int} {w1 w' : World} {x : Int} {m : Nat} (h : MemAt w1 g b n f c) (h1 : g ≠ B) (h2 : b ≠ B) (e : w' = ((w1.setCell ⟨B, 5, none⟩ (.int .i64 x)).drewN m).setCell ⟨B, 5, none⟩ (.int .i64 0)) : MemAt w' g b n f c := by
  subst e
  exact ((h.setB h1 h2 5 _).keep (Qt.below ⟨m, rfl⟩)).setB h1 h2 5 _
set_option maxHeartbeats 4000000 in
set_option maxRecDepth 100000 in
theorem act3 (h : Pre w g b n B LB v q s f c) (hp : s.ph = 3) :
    Calls Tryd.prog 52 #[.pointer (some ⟨B, 0, none⟩), .pointer (some ⟨g, 0, none⟩)] w fun e w' => ActP g b n B LB v q s f c w e w' := by
  have hp5 : s.ph < 5 := by omega
  have hm := h.W.more hp5
  have hE := h.T.end hp5
  obtain ⟨A, h7, hA⟩ := h.T.c7
  obtain rfl := hA hm
  have hpa := (h.W.pa hp5).2 hp
  have hcu := h.W.cur hp5
  have hsz := h.W.sz
  have hn8 := need_le (n := s.cur.size) (by omega)
  have hL := h.T.cur B LB v q s w hm (1 + s.pa) (by omega)
  rw [show letter s.cur (1 + s.pa) = wordOf s.cur s.pa by rw [Nat.add_comm]; rfl] at hL
  have h5 := hE.c5
  have hHL := Lib.hid (fun W (hW : Below w.heap.size w W) => word_any B s.at' s.pl s.sz s.oth s.own s.pa W (hE.keep hW) h.W.ar h.W.pl h.W.sz.2 h.W.own (by omega))
  rw [← Sd.wh3 hp] at hHL
  obtain ⟨er, f', hf', hst, hS⟩ := store_at B LB g b n v q s f c w h hp5 (wordOf s.cur s.pa) (Sd.puts3 hp)
  have HS := Lib.hid hS
  have H := Lib.hid (And.intro hf' (And.intro hst (And.intro hp (And.intro hp5 hm))))
  have HD := Lib.hid h.d
  obtain ⟨M, hM⟩ : ∃ M, M = s.L.length - s.sent.length := ⟨_, rfl⟩
  rw [← hM] at h7
  have hM0 : 0 < M := by omega
  have hi0 : (0 : Int) ≤ 1 + (s.pa : Int) := by omega
  have hi1 : 1 + (s.pa : Int) < 9 := by omega
  have hi2 : (1 + (s.pa : Int)).toNat = 1 + s.pa := by omega
  have hi3 : IntKind.i64.wrap (1 + (s.pa : Int)) = 1 + (s.pa : Int) := IntWalk.i64_in _ (by omega)
  generalize s.wh = a at hHL HS
  have HC := Lib.hid (And.intro hcu.2 hsz.2)
  have HPA := Lib.hid hpa
  clear h hp hp5 hm hE hA hS hf' hst hM hpa hcu hn8
  go_enter Tryd.func52, Tryd.ntmps52
  go_wp2_with fail
  go_region_law ((go_simp; first
    | (refine (hHL.out _ (by repeat (first | exact Below.refl _ _ | refine Below.drew ?_ | refine below_drewN ?_ _))).mono ?_
       rintro e w3 ⟨rfl, m, rfl⟩)
    | (refine (HS.out _ (by repeat (first | exact Below.refl _ _ | refine Below.drew ?_ | refine below_drewN ?_ _))).mono ?_
       rintro e w4 ⟨rfl, hq⟩
       have HQ := Lib.hid hq
       have y0 := hq.2.1.cur B LB v q s w4 H.out.2.2.2.2 0 (by omega)
       clear hq)))
  all_goals
    rw [Nat.add_zero] at y0
    have e0 : letter s.cur 0 = s.cur.size := rfl
    rw [e0] at y0
    clear e0
    by_cases hlt : s.pa + 1 < need s.cur.size
    · have HPM := Lib.hid (fun W (hW : Below w4.heap.size w4 W) => pass_more B s.at' s.pl s.sz s.oth s.own s.pa W s.cur.size s.cur.size rfl ((HQ.out.2.1.end H.out.2.2.2.1).keep hW) (Nat.le_trans HC.out.1 HC.out.2) hlt)
      have HLT := Lib.hid hlt
      clear hlt
      go_wp2_with fail
      go_region_law ((go_simp; refine (HPM.out _ (by repeat (first | exact Below.refl _ _ | refine Below.drew ?_ | refine below_drewN ?_ _))).mono ?_
                      rintro e w5 ⟨rfl, m5, hw5⟩
                      have HW5 := Lib.hid hw5
                      clear hw5))
      all_goals
        go_wp2_with fail
        go_ret2
        obtain ⟨⟨c', h1, h1', h1m⟩, h2, h3⟩ := HQ.out
        refine ⟨3, er, rfl, ?_, ⟨c', h1, h1', ?_⟩, v, ?_, chg_more (w1 := w4.drew) (h3.trans (Chg.of_below ((Below.refl _ _).drew))) HW5.out, .inl rfl⟩
        · rcases H.out.2.1 with ⟨h4, h5⟩ | ⟨h4, h5⟩
          · rw [if_pos h4, h5, Sd.go3 H.out.2.2.1, if_pos HLT.out]; exact H.out.2.2.1.symm
          · rw [if_neg h4, h5]
        · rw [← H.out.1]
          exact mem_more (w1 := w4.drew) h1m.drew HD.out.gB HD.out.bB HW5.out
        · have h6 := h2.drew.pass H.out.2.2.2.1 HW5.out
          rcases H.out.2.1 with ⟨h4, h5⟩ | ⟨h4, h5⟩
          · rw [h5, Sd.go3 H.out.2.2.1, if_pos HLT.out]; exact h6
          · rw [h5]; exact h6.over rfl rfl rfl rfl rfl rfl
    · have HPM := Lib.hid (fun W (hW : Below w4.heap.size w4 W) => pass_last B s.at' s.pl s.sz s.oth s.own s.pa W s.cur.size s.cur.size rfl ((HQ.out.2.1.end H.out.2.2.2.1).keep hW) (Nat.le_trans HC.out.1 HC.out.2) hlt (by have := HPA.out; have := need_le (n := s.cur.size) (Nat.le_trans HC.out.1 HC.out.2); omega))
      have HLT := Lib.hid hlt
      clear hlt
      go_wp2_with fail
      go_region_law ((go_simp; refine (HPM.out _ (by repeat (first | exact Below.refl _ _ | refine Below.drew ?_ | refine below_drewN ?_ _))).mono ?_
                      rintro e w5 ⟨rfl, m5, hw5⟩
                      have HW5 := Lib.hid hw5
                      clear hw5))
      all_goals
        go_wp2_with fail
        go_ret2
        obtain ⟨⟨c', h1, h1', h1m⟩, h2, h3⟩ := HQ.out
        refine ⟨4, er, rfl, ?_, ⟨c', h1, h1', ?_⟩, v, ?_, chg_last (w1 := w4.drew) (h3.trans (Chg.of_below ((Below.refl _ _).drew))) HW5.out, .inl rfl⟩
        · rcases H.out.2.1 with ⟨h4, h5⟩ | ⟨h4, h5⟩
          · rw [if_pos h4, h5, Sd.go3 H.out.2.2.1, if_neg HLT.out]
          · rw [if_neg h4, h5]
        · rw [← H.out.1]
          exact mem_last (w1 := w4.drew) h1m.drew HD.out.gB HD.out.bB HW5.out
        · have h6 := h2.drew.last H.out.2.2.2.1 HW5.out
          rcases H.out.2.1 with ⟨h4, h5⟩ | ⟨h4, h5⟩
          · rw [h5, Sd.go3 H.out.2.2.1, if_neg HLT.out]; exact h6
          · rw [h5]; exact h6.over rfl rfl rfl rfl rfl rfl
set_option maxHeartbeats 4000000 in
set_option maxRecDepth 100000 in
theorem act4 (h : Pre w g b n B LB v q s f c) (hp : s.ph = 4) :
    Calls Tryd.prog 53 #[.pointer (some ⟨B, 0, none⟩), .pointer (some ⟨g, 0, none⟩)] w fun e w' => ActP g b n B LB v q s f c w e w' := by
  have hp5 : s.ph < 5 := by omega
  have hE := h.T.end hp5
  have h4 := hE.c4
  have hTA := Lib.hid (fun W (hW : Below w.heap.size w W) => tail_any B s.at' s.oth s.own W s.pa s.pl s.sz (hE.keep hW) h.W.ar)
  rw [← Sd.wh4 hp] at hTA
  obtain ⟨er, f', hf', hst, hS⟩ := store_at B LB g b n v q s f c w h hp5 (inc s.own) (Sd.puts4 hp)
  have HS := Lib.hid hS
  have H := Lib.hid (And.intro hf' (And.intro hst (And.intro hp hp5)))
  have HD := Lib.hid h.d
  have HW := Lib.hid h.W
  have hinc : IntKind.u32.wrap (s.own + 1) = inc s.own := inc_wrap _
  generalize s.wh = a at hTA HS
  clear h hp hp5 hE hS hf' hst
  go_enter Tryd.func53, Tryd.ntmps53
  go_wp2_with fail
  go_region_law ((go_simp; first
    | (refine (hTA.out _ (by repeat (first | exact Below.refl _ _ | refine Below.drew ?_ | refine below_drewN ?_ _))).mono ?_
       rintro e w3 ⟨rfl, rfl⟩)
    | (refine (HS.out _ (by repeat (first | exact Below.refl _ _ | refine Below.drew ?_ | refine below_drewN ?_ _))).mono ?_
       rintro e w4 ⟨rfl, hq⟩
       have HQ := Lib.hid hq
       clear hq)))
  all_goals
    obtain ⟨⟨c', h1, h1', h1m⟩, h2, h3⟩ := HQ.out
    have HR := Lib.hid (And.intro (And.intro h1 h1') (And.intro h1m (And.intro h2 h3)))
    clear h1 h1' h1m h2 h3
    by_cases her : er = 0
    · have h5 := H.out.2.1.elim (fun x => x.2) (fun x => absurd her x.1)
      rw [Sd.go4 H.out.2.2.1] at h5
      have H5 := Lib.hid h5
      subst her
      clear h5
      go_wp2_with fail
      with_reducible refine (sclose_any B LB v q s w4 true HR.out.2.2.1 H.out.2.2.2 HW.out).mono ?_
      rintro e w5 hcl
      have HCL := Lib.hid hcl
      obtain ⟨rfl, _⟩ := hcl
      go_wp2_with fail
      go_ret2
      exact ⟨_, 0, rfl, by rw [if_pos rfl, H5.out], SndQ.close B LB g b n v q s f c HD.out HR.out.2.2.2 (by rw [← H.out.1]; exact HR.out.2.1) HR.out.1 H5.out HCL.out⟩
    · have h5 := H.out.2.1.elim (fun x => absurd x.1 her) (fun x => x.2)
      have H5 := Lib.hid h5
      clear h5
      go_wp2_with fail
      go_ret2
      refine ⟨5, er, rfl, by rw [if_neg her, H5.out], ⟨c', HR.out.1.1, HR.out.1.2, by rw [← H.out.1]; exact HR.out.2.1⟩, v, ?_, HR.out.2.2.2, .inl rfl⟩
      rw [H5.out]
      exact HR.out.2.2.1.lost
/-- The step that is stored, performed. -/
theorem act_any (h : Pre w g b n B LB v q s f c) (hp : s.ph < 5) : ∃ K, nextS s.ph = .func (.func K) #[] #[] ∧ Enters K ∧
    Calls Tryd.prog K #[.pointer (some ⟨B, 0, none⟩), .pointer (some ⟨g, 0, none⟩)] w fun e w' => ActP g b n B LB v q s f c w e w' := by
  have h5 : s.ph = 0 ∨ s.ph = 1 ∨ s.ph = 2 ∨ s.ph = 3 ∨ s.ph = 4 := by omega
  rcases h5 with e | e | e | e | e
  · exact ⟨49, by rw [e]; rfl, enters_of Tryd.func49 (by kernel_rfl) rfl, act0 B LB g b n v q s f c w h e⟩
  · exact ⟨50, by rw [e]; rfl, enters_of Tryd.func50 (by kernel_rfl) rfl, act1 B LB g b n v q s f c w h e⟩
  · exact ⟨51, by rw [e]; rfl, enters_of Tryd.func51 (by kernel_rfl) rfl, act2 B LB g b n v q s f c w h e⟩
  · exact ⟨52, by rw [e]; rfl, enters_of Tryd.func52 (by kernel_rfl) rfl, act3 B LB g b n v q s f c w h e⟩
  · exact ⟨53, by rw [e]; rfl, enters_of Tryd.func53 (by kernel_rfl) rfl, act4 B LB g b n v q s f c w h e⟩
set_option maxHeartbeats 2000000 in
set_option maxRecDepth 100000 in
/-- The action and what comes behind it. -/
theorem safter_any (K : Nat) (R : Nat) (Q : World → Prop) (hK : Enters K)
    (hcall : Calls Tryd.prog K #[.pointer (some ⟨B, 0, none⟩), .pointer (some ⟨g, 0, none⟩)] w fun e w' => ∃ (pr : Nat) (er : Int), e = .returned (.tuple #[.int .i64 pr, .int .i64 er]) ∧ (if er = 0 then pr else 5) = R ∧ Q w') :
    Calls Tryd.prog 44 #[.pointer (some ⟨B, 0, none⟩), .pointer (some ⟨g, 0, none⟩), .func (.func K) #[] #[]] w fun e w' => e = .returned (.int .i64 R) ∧ Q w' := by
  have HC := Lib.hid hcall
  have hk : ∀ (args : Array Value) (w : World), (callFunc K args).run Tryd.prog w = .ok (.enter K args) w := hK
  clear hcall hK
  go_enter Tryd.func44, Tryd.ntmps44
  go_wp2_with fail
  with_reducible refine HC.out.mono ?_
  rintro e w1 ⟨pr, er, rfl, hR, hQ⟩
  have HQ := Lib.hid hQ
  by_cases her : er = 0
  · rw [if_pos her] at hR
    subst her hR
    clear hQ hk
    go_wp2_with fail
    go_ret
    exact ⟨rfl, HQ.out⟩
  · rw [if_neg her] at hR
    subst hR
    clear hQ hk
    go_wp2_with fail
    go_ret
    exact ⟨rfl, HQ.out⟩
/-- What a step leaves of a sender. -/
def StepS (g b n B LB : Nat) (v : Value) (s : Sd) (f : Nat → Int) (c : Int) (w w' : World) : Prop :=
  (∃ c', c ≤ c' ∧ c' ≤ c + 1 ∧ MemAt w' g b n (s.word n f) c') ∧ ∃ v', SenderAt w' B LB v' (s.step n f).ph (s.step n f) ∧ Chg (SS g b B v) w w' ∧ (v'.ownBlock = v.ownBlock ∨ ∃ k, v'.ownBlock = some k ∧ w.heap.size ≤ k)
theorem neq76 (K : FuncId) (w : World) : (binOp .neq 76 (.func (.func K) #[] #[]) .nilFunc).run Tryd.prog w = .ok (.bool true) w := by kernel_rfl
theorem eql76 (K : FuncId) (w : World) : (binOp .eql 76 (.func (.func K) #[] #[]) .nilFunc).run Tryd.prog w = .ok (.bool false) w := by kernel_rfl
theorem neq76n (w : World) : (binOp .neq 76 .nilFunc .nilFunc).run Tryd.prog w = .ok (.bool false) w := by kernel_rfl
theorem eql76n (w : World) : (binOp .eql 76 .nilFunc .nilFunc).run Tryd.prog w = .ok (.bool true) w := by kernel_rfl
theorem nextS_func {q : Nat} (h : q < 5) : ∃ K, nextS q = .func (.func K) #[] #[] := by
  have h5 : q = 0 ∨ q = 1 ∨ q = 2 ∨ q = 3 ∨ q = 4 := by omega
  rcases h5 with rfl | rfl | rfl | rfl | rfl
  all_goals exact ⟨_, rfl⟩
theorem nextS_nil {q : Nat} (h : 5 ≤ q) : nextS q = .nilFunc := by
  match q, h with
  | k + 5, _ => rfl
set_option maxHeartbeats 4000000 in
set_option maxRecDepth 100000 in
/-- A step of a sender. -/
theorem sender_step (h : Pre w g b n B LB v s.ph s f c) :
    Calls Tryd.prog 19 #[.pointer (some ⟨B, 0, none⟩), .pointer (some ⟨g, 0, none⟩)] w fun e w' => e = .returned (.bool (decide (5 ≤ (s.step n f).ph))) ∧ StepS g b n B LB v s f c w w' := by
  have h6 := h.T.c6
  by_cases hp : s.ph < 5
  · obtain ⟨K, hK, hKe, hact⟩ := act_any B LB g b n v s.ph s f c w h hp
    have hR5 := (h.W.step h.ff).ph
    have HA := Lib.hid (safter_any B g w K (s.step n f).ph (SndQ g b n B LB v s.ph s f c w) hKe hact)
    obtain ⟨R, hR⟩ : ∃ R, R = (s.step n f).ph := ⟨_, rfl⟩
    rw [← hR] at HA hR5 ⊢
    rw [hK] at h6
    have HN := Lib.hid (fun W => sends_any R W hR5)
    have HD := Lib.hid h.d
    have HR := Lib.hid hR
    have HQ6 := Lib.hid (And.intro hK hp)
    have n1 := neq76
    have n2 := eql76
    have n4 := eql76n
    have fin : ∀ w', SndQ g b n B LB v s.ph s f c w w' → StepS g b n B LB v s f c w (w'.setCell ⟨B, 6, none⟩ (nextS R)) := fun w' hq => by
      obtain ⟨⟨c', h1, h2, h3⟩, v', h4, h5, h6⟩ := hq
      refine ⟨⟨c', h1, h2, h3.setB HD.out.gB HD.out.bB _ _⟩, v', ?_, SS.set h5 _ _, h6⟩
      rw [← HR.out]
      exact h4.next R
    have FIN := Lib.hid fin
    clear h hp hK hKe hact hR fin
    go_enter Tryd.func19, Tryd.ntmps19
    go_wp2_with fail
    with_reducible refine HA.out.mono ?_
    rintro e w1 ⟨rfl, hq⟩
    have HQ := Lib.hid hq
    obtain ⟨_, v', hT', _, _⟩ := hq
    have k6 := hT'.c6
    have z6 := hT'.fz 6
    clear hT' h6
    go_wp2_with fail
    with_reducible refine (HN.out _).mono ?_
    rintro e w2 ⟨rfl, rfl⟩
    have HFI := Lib.hid (FIN.out _ HQ.out)
    by_cases h5 : 5 ≤ R
    · rw [nextS_nil h5] at HFI ⊢
      go_wp2_with fail
      go_ret
      exact ⟨by rw [decide_eq_true h5]; rfl, HFI.out⟩
    · obtain ⟨K2, hK2⟩ := nextS_func (q := R) (by omega)
      rw [hK2] at HFI ⊢
      go_wp2_with fail
      go_ret
      exact ⟨by rw [decide_eq_false h5]; rfl, HFI.out⟩
  · have h5 : 5 ≤ s.ph := by omega
    have hst : s.step n f = s := by unfold Sd.step; rw [if_pos h5]
    have hwd : s.word n f = f := by unfold Sd.word; rw [if_pos h5]
    have n3 := neq76n
    have n4 := eql76n
    rw [nextS_nil h5] at h6
    have H := Lib.hid h
    have HH := Lib.hid (And.intro hst (And.intro hwd h5))
    clear h hp hst hwd h5
    go_enter Tryd.func19, Tryd.ntmps19
    go_wp2_with fail
    go_ret
    refine ⟨by rw [HH.out.1, decide_eq_true HH.out.2.2]; rfl, ⟨c, Int.le_refl _, by omega, by rw [HH.out.2.1]; exact H.out.M⟩, v, ?_, Chg.refl _, .inl rfl⟩
    rw [HH.out.1]
    exact H.out.T
end
end Go.Proofs.YtnmobalgghggnaaDoor
