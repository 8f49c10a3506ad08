/-
  A step of a reader; what it has read; how often it began.
-/
import Derived.Test.YtoaaeamogpdcgaaDoorWrW
import Derived.Deep.WholeRow
namespace Go.Proofs.YtoaaeamogpdcgaaDoor
open Go.RowKit

/-- A reader in memory. -/
structure ReaderAt (w : World) (B : Nat) (p : Int) (r : Rd) : Prop where
  k : WkAt w B p r.k
  c4 : w.cell? ⟨B, 4, none⟩ = some (.int .u32 r.cn)
  c5 : w.cell? ⟨B, 5, none⟩ = some (.int .i64 r.tr)
  ws : ∀ i, i < 32 → w.cell? ⟨B, 6 + i, none⟩ = some (.int .u32 (r.ws i))
  tr : r.tr ≤ 1000000
theorem ReaderAt.same {w w' : World} {B : Nat} {p : Int} {r : Rd} (h : ReaderAt w B p r) (e : w'.heap[B]? = w.heap[B]?) : ReaderAt w' B p r :=
  ⟨h.k.same e, by rw [World.cell?_of_block (w := w) e]; exact h.c4, by rw [World.cell?_of_block (w := w) e]; exact h.c5, fun i hi => by rw [World.cell?_of_block (w := w) e]; exact h.ws i hi, h.tr⟩
theorem ReaderAt.keep {w w' : World} {B : Nat} {p : Int} {r : Rd} (h : ReaderAt w B p r) (hB : Below w.heap.size w w') : ReaderAt w' B p r := h.same (hB.block _ h.k.lt)
theorem ReaderAt.chg {S : Nat → Prop} {w w' : World} {B : Nat} {p : Int} {r : Rd} (h : ReaderAt w B p r) (hC : Chg S w w') (hB : ¬ S B) : ReaderAt w' B p r := h.same (hC.block _ h.k.lt hB)
theorem ReaderAt.else {g b : Nat} {w w' : World} {B : Nat} {p : Int} {r : Rd} (h : ReaderAt w B p r) (hE : Else g b w w') (hg : g ≠ B) (hb : b ≠ B) : ReaderAt w' B p r :=
  h.chg (Chg.of_else hE) (fun e => e.elim (fun e => hg e.symm) fun e => hb e.symm)
theorem ReaderAt.set {w : World} {B : Nat} {p : Int} {r : Rd} (h : ReaderAt w B p r) (q : Int) : ReaderAt (w.setCell ⟨B, 2, none⟩ (.int .i64 q)) B q r :=
  ⟨h.k.set q, by rw [World.cell?_setCell_other _ _ _ _ (by simp)]; exact h.c4, by rw [World.cell?_setCell_other _ _ _ _ (by simp)]; exact h.c5, fun i hi => by rw [World.cell?_setCell_other _ _ _ _ (fn0 (by omega))]; exact h.ws i hi, h.tr⟩
theorem ReaderAt.think {w : World} {B : Nat} {p : Int} {r : Rd} (h : ReaderAt w B p r) (q : Nat) (hq : q ≤ 4 ∧ (q < 3 → r.k.pa < r.k.n ∧ (q ≠ 1 → r.k.pa = 0))) : ReaderAt w B p { r with k := { r.k with ph := q } } :=
  ⟨h.k.think rfl rfl rfl hq, h.c4, h.c5, h.ws, h.tr⟩
theorem ReaderAt.began {w : World} {B : Nat} {p : Int} {r : Rd} (h : ReaderAt w B p r) (x : Int) (ht : r.tr + 1 ≤ 1000000) : ReaderAt ((w.setCell ⟨B, 4, none⟩ (.int .u32 x)).setCell ⟨B, 5, none⟩ (.int .i64 ((r.tr : Int) + 1))) B p { r with cn := x, tr := r.tr + 1 } :=
  ⟨(h.k.far (by omega) _).far (by omega) _, by rw [World.cell?_setCell_other _ _ _ _ (by simp)]; exact World.cell?_setCell_same _ _ _ h.c4, World.cell?_setCell_same _ _ _ (by rw [World.cell?_setCell_other _ _ _ _ (by simp)]; exact h.c5),
   fun i hi => by rw [World.cell?_setCell_other _ _ _ _ (fn0 (by omega)), World.cell?_setCell_other _ _ _ _ (fn0 (by omega))]; exact h.ws i hi, ht⟩
theorem ReaderAt.word {w : World} {B : Nat} {p : Int} {r : Rd} (h : ReaderAt w B p r) (i : Nat) (hi : i < 32) (x : Int) : ReaderAt (w.setCell ⟨B, 6 + i, none⟩ (.int .u32 x)) B p { r with ws := upd r.ws i x } :=
  ⟨h.k.far (by omega) _, by rw [World.cell?_setCell_other _ _ _ _ (fn0 (by omega))]; exact h.c4, by rw [World.cell?_setCell_other _ _ _ _ (fn0 (by omega))]; exact h.c5,
   fun j hj => by
    by_cases e : j = i
    · subst e; show _ = some (Value.int .u32 (upd r.ws j x j)); rw [upd_same]; exact World.cell?_setCell_same _ _ _ (h.ws j hj)
    · show _ = some (Value.int .u32 (upd r.ws i x j)); rw [upd_other e, World.cell?_setCell_other _ _ _ _ (fn0 (by omega))]; exact h.ws j hj, h.tr⟩
theorem ReaderAt.pass {w w' : World} {B : Nat} {p : Int} {r : Rd} (h : ReaderAt w B p r) (hk : WkAt w' B p r.k.pass) (hT : Third B w w') : ReaderAt w' B p { r with k := r.k.pass } :=
  ⟨hk, by rw [hT.cell _ (by decide)]; exact h.c4, by rw [hT.cell _ (by decide)]; exact h.c5, fun i hi => by rw [hT.cell _ (by omega)]; exact h.ws i hi, h.tr⟩
theorem Rd.step_over {m : Nat} {f : Nat → Int} {r : Rd} (h : 3 ≤ r.k.ph) : r.step m f = r := by unfold Rd.step; rw [if_pos h]
theorem Rd.step_no {m : Nat} {f : Nat → Int} {r : Rd} (h : r.k.ph < 3) (hi : ¬ (0 ≤ r.k.wh ∧ r.k.wh < m)) : r.step m f = { r with k := r.k.lose, ws := if r.k.ph = 1 then upd r.ws r.k.pa 0 else r.ws } := by unfold Rd.step; rw [if_neg (by omega), inM_ne hi]; rfl
theorem Rd.step0 {m i : Nat} {f : Nat → Int} {r : Rd} (h : r.k.ph = 0) (hi : r.k.wh = i) (hm : i < m) : r.step m f = if f i % 2 = 1 then r else { r with k := { r.k with ph := 1 }, cn := f i, tr := r.tr + 1 } := by unfold Rd.step; rw [if_neg (by omega), inM_of (by omega), hi]; simp [h]
theorem Rd.step1 {m i : Nat} {f : Nat → Int} {r : Rd} (h : r.k.ph = 1) (hi : r.k.wh = i) (hm : i < m) : r.step m f = { r with k := r.k.pass, ws := upd r.ws r.k.pa (f i) } := by unfold Rd.step; rw [if_neg (by omega), inM_of (by omega), hi]; simp [h]
theorem Rd.step2 {m i : Nat} {f : Nat → Int} {r : Rd} (h : r.k.ph = 2) (hi : r.k.wh = i) (hm : i < m) : r.step m f = { r with k := { r.k with ph := if f i = r.cn then 3 else 0 } } := by unfold Rd.step; rw [if_neg (by omega), inM_of (by omega), hi]; simp [h]
/-- What a use of a reader leaves. -/
def ReaderQ (g b n B : Nat) (f : Nat → Int) (c : Int) (r : Rd) (w w' : World) : Prop :=
  (∃ c', c ≤ c' ∧ c' ≤ c + 1 ∧ MemAt w' g b n f c') ∧ ReaderAt w' B r.k.ph (r.step n f) ∧ Chg (ST g b B) w w'
section
variable (B g b n : Nat) (r : Rd) (f : Nat → Int) (c : Int) (w : World)
set_option maxHeartbeats 4000000 in
set_option maxRecDepth 100000 in
theorem open_yes (i : Nat) (hT : ReaderAt w B r.k.ph r) (hgB : g ≠ B) (hbB : b ≠ B) (hG : GOk w) (hM : MemAt w g b n f c) (hn : n ≤ 4096) (hc : 0 ≤ c ∧ c ≤ 1000000) (hp : r.k.ph = 0) (ha : r.k.at' = i) (hi : i < n) (hf : 0 ≤ f i ∧ f i < 4294967296) (ht : r.tr + 1 ≤ 1000000) :
    Calls Tryd.prog 41 #[.pointer (some ⟨B, 0, none⟩), .pointer (some ⟨g, 0, none⟩)] w fun e w' => e = .returned (.tuple #[.int .i64 (r.step n f).k.ph, .int .i64 0]) ∧ ReaderQ g b n B f c r w w' := by
  have HA := Lib.hid (load_yes i g b n f c w hG hM hn hi hc)
  have k0 := hT.k.c0
  rw [ha] at k0
  have hpr := Lib.hid (hT.k.pr.2.2 (by omega))
  have HT := Lib.hid hT
  have hBg : B ≠ g := fun e => hgB e.symm
  have hBb : B ≠ b := fun e => hbB e.symm
  have e0 : Hid (r.k.wh = i) := Lib.hid (by rw [wh02 (.inl hp)]; exact ha)
  have HP := Lib.hid hp
  have HF := Lib.hid hf
  have hs : IntKind.i64.wrap ((r.tr : Int) + 1) = (r.tr : Int) + 1 := IntWalk.i64_in _ (by omega)
  clear hG hM hc hT hp ha hf
  go_enter Tryd.func41, Tryd.ntmps41
  go_wp2_with fail
  with_reducible refine HA.out.mono ?_
  rintro e w1 ⟨rfl, hM1, hE1⟩
  have HT1 := Lib.hid (HT.out.else hE1 hgB hbB)
  have q4 := HT1.out.c4
  have q5 := HT1.out.c5
  have z4 := HT1.out.k.fz 4
  have z5 := HT1.out.k.fz 5
  have HM1 := Lib.hid (hM1.congr fun j _ => setF_same f i j)
  have HE1 := Lib.hid (chg_else (B := B) hE1)
  clear hM1 hE1 k0
  have htm : (f i).tmod 2 = f i % 2 := Int.tmod_eq_emod_of_nonneg HF.out.1
  by_cases hx : f i % 2 = 1
  · have hb : ((f i).tmod 2 == 1) = true := by rw [htm, hx]; rfl
    clear htm
    have HX := Lib.hid hx
    clear hx
    go_wp2_with fail
    go_ret2
    clear hb
    rw [ReaderQ, Rd.step0 HP.out e0.out hi, if_pos HX.out]
    exact ⟨by rw [HP.out]; rfl, ⟨c + 1, by omega, Int.le_refl _, HM1.out⟩, HT1.out, HE1.out⟩
  · have hb : ((f i).tmod 2 == 1) = false := by rw [htm]; exact beq_false_of_ne hx
    clear htm
    have HX := Lib.hid hx
    clear hx
    go_wp2_with fail
    go_ret2
    clear hb
    rw [ReaderQ, Rd.step0 HP.out e0.out hi, if_neg HX.out]
    have h5 := (HT1.out.began (f i) ht).think 1 ⟨by omega, fun _ => ⟨(hpr.out).1, fun e => absurd rfl e⟩⟩
    exact ⟨rfl, ⟨c + 1, by omega, Int.le_refl _, (HM1.out.setOut (a := ⟨B, 4, none⟩) hBg hBb _).setOut (a := ⟨B, 5, none⟩) hBg hBb _⟩, h5, (HE1.out.setB _).setB _⟩
set_option maxHeartbeats 4000000 in
set_option maxRecDepth 100000 in
theorem open_no (hT : ReaderAt w B r.k.ph r) (hG : GOk w) (hM : MemAt w g b n f c) (hn : n ≤ 4096) (hp : r.k.ph = 0) (hi : ¬ (0 ≤ r.k.wh ∧ r.k.wh < n)) :
    Calls Tryd.prog 41 #[.pointer (some ⟨B, 0, none⟩), .pointer (some ⟨g, 0, none⟩)] w fun e w' => e = .returned (.tuple #[.int .i64 0, .int .i64 81]) ∧ ReaderQ g b n B f c r w w' := by
  have e0 : r.k.wh = r.k.at' := wh02 (.inl hp)
  have HA := Lib.hid (load_no r.k.at' g b n f c w hG hM hn (by rw [← e0]; exact hi))
  have k0 := hT.k.c0
  have HT := Lib.hid hT
  have HM := Lib.hid hM
  have HI := Lib.hid hi
  have HP := Lib.hid hp
  clear hG hM hT hi e0 hp
  go_enter Tryd.func41, Tryd.ntmps41
  go_wp2_with fail
  with_reducible refine HA.out.mono ?_
  rintro e w1 ⟨rfl, hB1⟩
  have HT1 := Lib.hid (HT.out.keep hB1)
  have HM1 := Lib.hid (HM.out.keep hB1)
  have HE1 := Lib.hid (Chg.of_below (S := ST g b B) hB1)
  clear hB1 k0
  go_wp2_with fail
  go_ret2
  have e1 : r.k.lose = { r.k with ph := 4 } := by unfold Wk.lose; rw [if_neg (by rw [HP.out]; omega)]
  rw [ReaderQ, Rd.step_no (by rw [HP.out]; omega) HI.out, e1, if_neg (by rw [HP.out]; omega)]
  exact ⟨rfl, ⟨c, Int.le_refl _, by omega, HM1.out⟩, HT1.out.think 4 ⟨by omega, fun h => absurd h (by omega)⟩, HE1.out⟩
set_option maxHeartbeats 4000000 in
set_option maxRecDepth 100000 in
theorem rclose_yes (i : Nat) (hT : ReaderAt w B r.k.ph r) (hgB : g ≠ B) (hbB : b ≠ B) (hG : GOk w) (hM : MemAt w g b n f c) (hn : n ≤ 4096) (hc : 0 ≤ c ∧ c ≤ 1000000) (hp : r.k.ph = 2) (ha : r.k.at' = i) (hi : i < n) :
    Calls Tryd.prog 42 #[.pointer (some ⟨B, 0, none⟩), .pointer (some ⟨g, 0, none⟩)] w fun e w' => e = .returned (.tuple #[.int .i64 (r.step n f).k.ph, .int .i64 0]) ∧ ReaderQ g b n B f c r w w' := by
  have HA := Lib.hid (load_yes i g b n f c w hG hM hn hi hc)
  have k0 := hT.k.c0
  rw [ha] at k0
  have hpr := Lib.hid (hT.k.pr.2.2 (by omega))
  have HT := Lib.hid hT
  have e0 : Hid (r.k.wh = i) := Lib.hid (by rw [wh02 (.inr hp)]; exact ha)
  have HP := Lib.hid hp
  clear hG hM hc hT hp ha
  go_enter Tryd.func42, Tryd.ntmps42
  go_wp2_with fail
  with_reducible refine HA.out.mono ?_
  rintro e w1 ⟨rfl, hM1, hE1⟩
  have HT1 := Lib.hid (HT.out.else hE1 hgB hbB)
  have q4 := HT1.out.c4
  have HM1 := Lib.hid (hM1.congr fun j _ => setF_same f i j)
  have HE1 := Lib.hid (chg_else (B := B) hE1)
  clear hM1 hE1 k0
  by_cases hx : f i = r.cn
  · go_wp2_with fail
    go_ret2
    rw [ReaderQ, Rd.step2 HP.out e0.out hi, if_pos hx]
    exact ⟨rfl, ⟨c + 1, by omega, Int.le_refl _, HM1.out⟩, HT1.out.think 3 ⟨by omega, fun h => absurd h (by omega)⟩, HE1.out⟩
  · go_wp2_with fail
    go_ret2
    rw [ReaderQ, Rd.step2 HP.out e0.out hi, if_neg hx]
    have h2 := hpr.out
    exact ⟨rfl, ⟨c + 1, by omega, Int.le_refl _, HM1.out⟩, HT1.out.think 0 ⟨by omega, fun _ => ⟨h2.1, fun _ => h2.2 (by rw [HP.out]; omega)⟩⟩, HE1.out⟩
set_option maxHeartbeats 4000000 in
set_option maxRecDepth 100000 in
theorem rclose_no (hT : ReaderAt w B r.k.ph r) (hG : GOk w) (hM : MemAt w g b n f c) (hn : n ≤ 4096) (hp : r.k.ph = 2) (hi : ¬ (0 ≤ r.k.wh ∧ r.k.wh < n)) :
    Calls Tryd.prog 42 #[.pointer (some ⟨B, 0, none⟩), .pointer (some ⟨g, 0, none⟩)] w fun e w' => ∃ pr : Int, e = .returned (.tuple #[.int .i64 pr, .int .i64 81]) ∧ ReaderQ g b n B f c r w w' := by
  have e0 : r.k.wh = r.k.at' := wh02 (.inr hp)
  have HA := Lib.hid (load_no r.k.at' g b n f c w hG hM hn (by rw [← e0]; exact hi))
  have k0 := hT.k.c0
  have HT := Lib.hid hT
  have HM := Lib.hid hM
  have HI := Lib.hid hi
  have HP := Lib.hid hp
  clear hG hM hT hi e0 hp
  go_enter Tryd.func42, Tryd.ntmps42
  go_wp2_with fail
  with_reducible refine HA.out.mono ?_
  rintro e w1 ⟨rfl, hB1⟩
  have HT1 := Lib.hid (HT.out.keep hB1)
  have q4 := HT1.out.c4
  have HM1 := Lib.hid (HM.out.keep hB1)
  have HE1 := Lib.hid (Chg.of_below (S := ST g b B) hB1)
  clear hB1 k0
  have e1 : Hid (r.k.lose = { r.k with ph := 4 }) := Lib.hid (by unfold Wk.lose; rw [if_neg (by rw [HP.out]; omega)])
  by_cases hx : 0 = r.cn
  · go_wp2_with fail
    go_ret2
    rw [ReaderQ, Rd.step_no (by rw [HP.out]; omega) HI.out, e1.out, if_neg (by rw [HP.out]; omega)]
    exact ⟨3, rfl, ⟨c, Int.le_refl _, by omega, HM1.out⟩, HT1.out.think 4 ⟨by omega, fun h => absurd h (by omega)⟩, HE1.out⟩
  · go_wp2_with fail
    go_ret2
    rw [ReaderQ, Rd.step_no (by rw [HP.out]; omega) HI.out, e1.out, if_neg (by rw [HP.out]; omega)]
    exact ⟨0, rfl, ⟨c, Int.le_refl _, by omega, HM1.out⟩, HT1.out.think 4 ⟨by omega, fun h => absurd h (by omega)⟩, HE1.out⟩
set_option maxHeartbeats 4000000 in
set_option maxRecDepth 100000 in
/-- Behind the load of a word: it is kept, the walk goes on. -/
theorem passes_any (x er : Int) (at' : Int) (P : World → Prop) (hT : ReaderAt w B r.k.ph r) (hp : r.k.ph = 1) (ha : r.k.at' + 1 + r.k.pa = at')
    (hcall : ∀ W, Below w.heap.size w W → Calls Tryd.prog 27 #[.pointer (some ⟨g, 0, none⟩), .int .i64 at'] W fun e w' => e = .returned (.tuple #[.int .u32 x, .int .i64 er]) ∧ P w' ∧ ReaderAt w' B r.k.ph r) :
    Calls Tryd.prog 33 #[.pointer (some ⟨B, 0, none⟩), .pointer (some ⟨g, 0, none⟩)] w fun e w' => e = .returned (.tuple #[.int .i64 r.k.pass.ph, .int .i64 er]) ∧
      ∃ w1 w2, P w1 ∧ Chg (fun k => k = B) w1 w2 ∧ Third B w2 w' ∧ ReaderAt w' B r.k.ph { r with k := r.k.pass, ws := upd r.ws r.k.pa x } := by
  have hpr := hT.k.pr.2.2 (by omega)
  have hn := hT.k.nr
  have HC := Lib.hid hcall
  have HW := Lib.hid (fun W (hB : Below w.heap.size w W) => word_any B r.k.ph r.k W (hT.k.keep hB))
  have HPA := Lib.hid (fun W (hK : WkAt W B r.k.ph r.k) => pass_any B r.k.ph r.k W hK hpr.1)
  have k2 := hT.k.c2
  rw [hp] at k2
  have HHA := Lib.hid ha
  have hp32 : (r.k.pa : Int) < 32 := by omega
  have hp0 : (0 : Int) ≤ r.k.pa := by omega
  clear hT hcall ha hpr
  have HP := Lib.hid hp
  clear hp
  go_enter Tryd.func33, Tryd.ntmps33
  go_wp2_with fail
  with_reducible refine (HW.out _ (Below.refl _ _)).mono ?_
  rintro e w1 ⟨rfl, hB1⟩
  rw [HHA.out]
  have HB1 := Lib.hid hB1
  clear hB1
  go_wp2_with fail
  with_reducible refine (HC.out _ HB1.out).mono ?_
  rintro e w2 ⟨rfl, hP, hR⟩
  have HP2 := Lib.hid hP
  have HR2 := Lib.hid hR
  have q3 := hR.k.c3
  have qw := hR.ws r.k.pa (by omega)
  have zw := hR.k.fz (6 + r.k.pa)
  clear hP hR k2
  go_wp2_with fail
  have hks := Lib.hid (fun (v : Value) => show (w2.setCell ⟨B, 6 + r.k.pa, none⟩ v).drew.cell? ⟨B, 3, none⟩ = some (.int .i64 r.k.pa) from (World.cell?_setCell_other _ _ _ _ (fn0 (by omega))).trans q3)
  go_region_held3 (fun w' => w'.cell? ⟨B, 3, none⟩ = some (.int .i64 r.k.pa)) (first | exact hks.out _ | go_keep) (fail)
  have HR3 := Lib.hid ((HR2.out.word r.k.pa (by omega) x).keep ((Below.refl _ _).drew))
  have HC3 := Lib.hid (((Chg.refl (S := fun k => k = B) w2).set (a := ⟨B, 6 + r.k.pa, none⟩) rfl (.int .u32 x)).trans (Chg.of_below ((Below.refl _ _).drew)))
  clear q3 qw zw
  go_wp2_with fail
  with_reducible refine (HPA.out _ HR3.out.k).mono ?_
  rintro e w3 ⟨rfl, hK3, hT3⟩
  have HK3 := Lib.hid hK3
  have HT3 := Lib.hid hT3
  clear hK3 hT3
  go_wp2_with fail
  go_ret2
  exact ⟨rfl, w2, _, HP2.out, HC3.out, HT3.out, HR3.out.pass HK3.out HT3.out⟩
set_option maxHeartbeats 4000000 in
set_option maxRecDepth 100000 in
theorem perf02 (pr er : Int) (K : Nat) (Q : World → Prop) (hT : ReaderAt w B r.k.ph r) (hp : r.k.ph = 0 ∧ K = 41 ∨ r.k.ph = 2 ∧ K = 42)
    (hcall : Calls Tryd.prog K #[.pointer (some ⟨B, 0, none⟩), .pointer (some ⟨g, 0, none⟩)] w fun e w' => e = .returned (.tuple #[.int .i64 pr, .int .i64 er]) ∧ Q w') :
    Calls Tryd.prog 33 #[.pointer (some ⟨B, 0, none⟩), .pointer (some ⟨g, 0, none⟩)] w fun e w' => e = .returned (.tuple #[.int .i64 pr, .int .i64 er]) ∧ Q w' := by
  have k2 := hT.k.c2
  have HC := Lib.hid hcall
  clear hT hcall
  rcases hp with ⟨hp, rfl⟩ | ⟨hp, rfl⟩
  all_goals
    rw [hp] at k2
    clear hp
    go_enter Tryd.func33, Tryd.ntmps33
    go_wp2_with fail
    with_reducible refine HC.out.mono ?_
    rintro e w1 ⟨rfl, hq⟩
    have HQ := Lib.hid hq
    clear hq
    go_wp2_with fail
    go_ret2
    exact ⟨rfl, HQ.out⟩
set_option maxHeartbeats 4000000 in
set_option maxRecDepth 100000 in
theorem perf2e (Q : World → Prop) (hT : ReaderAt w B r.k.ph r) (hp : r.k.ph = 2)
    (hcall : Calls Tryd.prog 42 #[.pointer (some ⟨B, 0, none⟩), .pointer (some ⟨g, 0, none⟩)] w fun e w' => ∃ pr : Int, e = .returned (.tuple #[.int .i64 pr, .int .i64 81]) ∧ Q w') :
    Calls Tryd.prog 33 #[.pointer (some ⟨B, 0, none⟩), .pointer (some ⟨g, 0, none⟩)] w fun e w' => ∃ pr : Int, e = .returned (.tuple #[.int .i64 pr, .int .i64 81]) ∧ Q w' := by
  have k2 := hT.k.c2
  have HC := Lib.hid hcall
  rw [hp] at k2
  clear hT hcall hp
  go_enter Tryd.func33, Tryd.ntmps33
  go_wp2_with fail
  with_reducible refine HC.out.mono ?_
  rintro e w1 ⟨pr, rfl, hq⟩
  have HQ := Lib.hid hq
  clear hq
  go_wp2_with fail
  go_ret2
  exact ⟨pr, rfl, HQ.out⟩
theorem read_any (hT : ReaderAt w B r.k.ph r) (hgB : g ≠ B) (hbB : b ≠ B) (hG : GOk w) (hM : MemAt w g b n f c) (hn : n ≤ 4096) (hc : 0 ≤ c ∧ c ≤ 1000000) (hp : r.k.ph < 3) (hf : ∀ i, i < n → 0 ≤ f i ∧ f i < 4294967296) (ht : r.tr + 1 ≤ 1000000) :
    Calls Tryd.prog 33 #[.pointer (some ⟨B, 0, none⟩), .pointer (some ⟨g, 0, none⟩)] w fun e w' => ∃ pr er : Int, e = .returned (.tuple #[.int .i64 pr, .int .i64 er]) ∧ (if er = 0 then pr else 4) = (r.step n f).k.ph ∧ ReaderQ g b n B f c r w w' := by
  have h3 : r.k.ph = 0 ∨ r.k.ph = 1 ∨ r.k.ph = 2 := by omega
  by_cases hi : 0 ≤ r.k.wh ∧ r.k.wh < n
  · obtain ⟨i, hi'⟩ : ∃ i : Nat, r.k.wh = i := ⟨r.k.wh.toNat, by omega⟩
    have him : i < n := by omega
    rcases h3 with h | h | h
    · exact (perf02 B g r w _ _ 41 _ hT (.inl ⟨h, rfl⟩) (open_yes B g b n r f c w i hT hgB hbB hG hM hn hc h (by rw [← wh02 (.inl h)]; exact hi') him (hf i him) ht)).mono fun e w' ⟨he, hq⟩ => ⟨_, _, he, by rw [if_pos rfl], hq⟩
    · refine (passes_any B g r w (f i) 0 i (fun w' => MemAt w' g b n f (c + 1) ∧ Chg (ST g b B) w w') hT h (by rw [← wh1 h]; exact hi') fun W hB => (load_yes i g b n f c W (hG.keep hB) (hM.keep hB) hn him hc).mono fun e w' ⟨he, hm, hE⟩ => ⟨he, ⟨hm.congr fun j _ => setF_same f i j, (Chg.of_below hB).trans (chg_else hE)⟩, (hT.keep hB).else hE hgB hbB⟩).mono ?_
      rintro e w' ⟨he, w1, w2, ⟨hm, hC⟩, hC2, hT3, hR⟩
      refine ⟨_, _, he, by rw [if_pos rfl, Rd.step1 h hi' him], ⟨c + 1, by omega, Int.le_refl _, (hC2.mem hm hgB hbB).third hT3 hgB hbB⟩, ?_, (hC.trans (hC2.mono fun _ hk => .inr (.inr hk))).trans (chg_third hT3)⟩
      rw [Rd.step1 h hi' him]; exact hR
    · exact (perf02 B g r w _ _ 42 _ hT (.inr ⟨h, rfl⟩) (rclose_yes B g b n r f c w i hT hgB hbB hG hM hn hc h (by rw [← wh02 (.inr h)]; exact hi') him)).mono fun e w' ⟨he, hq⟩ => ⟨_, _, he, by rw [if_pos rfl], hq⟩
  · have hst : (r.step n f).k.ph = 4 := by rw [Rd.step_no hp hi]; rfl
    rcases h3 with h | h | h
    · exact (perf02 B g r w _ _ 41 _ hT (.inl ⟨h, rfl⟩) (open_no B g b n r f c w hT hG hM hn h hi)).mono fun e w' ⟨he, hq⟩ => ⟨_, _, he, by rw [if_neg (by decide), hst]; rfl, hq⟩
    · refine (passes_any B g r w 0 81 (r.k.at' + 1 + r.k.pa) (fun w' => MemAt w' g b n f c ∧ Chg (ST g b B) w w') hT h rfl fun W hB => (load_no _ g b n f c W (hG.keep hB) (hM.keep hB) hn (by rw [← wh1 h]; exact hi)).mono fun e w' ⟨he, hB2⟩ => ⟨he, ⟨(hM.keep hB).keep hB2, (Chg.of_below hB).trans (Chg.of_below hB2)⟩, (hT.keep hB).keep hB2⟩).mono ?_
      rintro e w' ⟨he, w1, w2, ⟨hm, hC⟩, hC2, hT3, hR⟩
      refine ⟨_, _, he, by rw [if_neg (by decide), hst]; rfl, ⟨c, Int.le_refl _, by omega, (hC2.mem hm hgB hbB).third hT3 hgB hbB⟩, ?_, (hC.trans (hC2.mono fun _ hk => .inr (.inr hk))).trans (chg_third hT3)⟩
      rw [Rd.step_no hp hi, if_pos h]
      have e1 : r.k.lose = { r.k.pass with ph := 4 } := by unfold Wk.lose; rw [if_pos h]
      rw [e1]
      exact hR.think 4 ⟨by omega, fun h => absurd h (by omega)⟩
    · exact (perf2e B g r w _ hT h (rclose_no B g b n r f c w hT hG hM hn h hi)).mono fun e w' ⟨pr, he, hq⟩ => ⟨_, _, he, by rw [if_neg (by decide), hst]; rfl, hq⟩
theorem enters33 : Enters 33 := enters_of Tryd.func33 (by kernel_rfl) rfl
set_option maxHeartbeats 4000000 in
/-- A step of a reader. -/
theorem reader_step (hT : ReaderAt w B r.k.ph r) (hgB : g ≠ B) (hbB : b ≠ B) (hG : GOk w) (hM : MemAt w g b n f c) (hn : n ≤ 4096) (hc : 0 ≤ c ∧ c ≤ 1000000) (hf : ∀ i, i < n → 0 ≤ f i ∧ f i < 4294967296) (ht : r.tr + 1 ≤ 1000000) :
    Calls Tryd.prog 19 #[.pointer (some ⟨B, 0, none⟩), .pointer (some ⟨g, 0, none⟩)] w fun e w' => e = .returned (.bool (decide (3 ≤ (r.step n f).k.ph))) ∧
      (∃ c', c ≤ c' ∧ c' ≤ c + 1 ∧ MemAt w' g b n f c') ∧ ReaderAt w' B (r.step n f).k.ph (r.step n f) ∧ Chg (ST g b B) w w' := by
  have hmf : ∀ (fn : Fn) (first cap : Array Value) (w : World), (Instr.makeFunc fn first cap).run Tryd.prog w = .ok (.func fn first cap) w := fun _ _ _ _ => rfl
  by_cases hp : r.k.ph < 3
  · have HS := Lib.hid (step_go 33 B g w (ReaderQ g b n B f c r w) (r.step n f).k.ph r.k.ph hp enters33 hT.k.c2 (fun w' hq => ⟨hq.2.1.k.c2, hq.2.1.k.fz 2⟩) ((read_any B g b n r f c w hT hgB hbB hG hM hn hc hp hf ht).mono fun e w' ⟨pr, er, he, h1, h2⟩ => ⟨pr, er, he, by rw [h1], h2⟩))
    clear hT hG hM hf
    go_enter Tryd.func19, Tryd.ntmps19
    go_wp2_with fail
    with_reducible refine HS.out.mono ?_
    rintro e w1 ⟨rfl, w2, ⟨⟨c', h1, h2, hm⟩, hw, hch⟩, rfl⟩
    have HR := Lib.hid (And.intro (And.intro h1 h2) (And.intro hm (And.intro hw hch)))
    clear h1 h2 hm hw hch
    go_wp2_with fail
    go_ret
    obtain ⟨⟨h1, h2⟩, hm, hw, hch⟩ := HR.out
    exact ⟨rfl, ⟨c', h1, h2, hm.setOut (a := ⟨B, 2, none⟩) (fun e => hgB e.symm) (fun e => hbB e.symm) _⟩, hw.set _, hch.setB _⟩
  · have h3 : 3 ≤ r.k.ph := by omega
    have HS := Lib.hid (step_over B g w r.k.ph h3 hT.k.c2)
    have HT := Lib.hid hT
    have HM := Lib.hid hM
    clear hT hG hM hf
    go_enter Tryd.func19, Tryd.ntmps19
    go_wp2_with fail
    with_reducible refine (HS.out _).mono ?_
    rintro e w1 ⟨rfl, rfl⟩
    go_wp2_with fail
    go_ret
    rw [Rd.step_over h3]
    exact ⟨by rw [decide_eq_true h3]; rfl, ⟨c, Int.le_refl _, by omega, HM.out⟩, HT.out, Chg.refl _⟩
set_option maxHeartbeats 1000000 in
theorem tries_any (p : Int) (hT : ReaderAt w B p r) : Calls Tryd.prog 25 #[.pointer (some ⟨B, 0, none⟩)] w fun e w' => e = .returned (.int .i64 r.tr) ∧ w' = w := by
  have k5 := hT.c5
  clear hT
  go_enter Tryd.func25, Tryd.ntmps25
  go_wp2_with fail
  go_ret
  exact ⟨rfl, rfl⟩
set_option maxHeartbeats 1000000 in
theorem written_any (p : Int) (A : Option Addr) (ca : Nat) (s : Wr) (hT : WriterAt w B p A ca s) : Calls Tryd.prog 21 #[.pointer (some ⟨B, 0, none⟩)] w fun e w' => e = .returned (.int .i64 s.wr) ∧ w' = w := by
  have k5 := hT.c5
  clear hT
  go_enter Tryd.func21, Tryd.ntmps21
  go_wp2_with fail
  go_ret
  exact ⟨rfl, rfl⟩
set_option maxHeartbeats 1000000 in
theorem got_no (p : Int) (hT : ReaderAt w B p r) (hp : p ≠ 3) : Calls Tryd.prog 20 #[.pointer (some ⟨B, 0, none⟩)] w fun e w' => e = .returned (.tuple #[.slice none 0 0, .bool false]) ∧ w' = w := by
  have k2 := hT.k.c2
  have hp' : (p != 3) = true := by simpa using hp
  clear hT
  go_enter Tryd.func20, Tryd.ntmps20
  go_wp2_with fail
  go_ret2
  exact ⟨rfl, rfl⟩
def cells32 (f : Nat → Int) : List Value := (List.range 32).map fun i => Value.int .u32 (f i)
theorem cells32_len (f : Nat → Int) : (cells32 f).length = 32 := by simp [cells32]
theorem info75 : (Tryd.prog.info? 75).map (fun i => (i.zero, i.size)) = some (some (.agg (madeCells #[.int .u32 0] 32)), 32) := by kernel_rfl
theorem u75 : Tryd.prog.underlying 75 = some (.array 32 22) := by kernel_rfl
set_option maxHeartbeats 4000000 in
set_option maxRecDepth 100000 in
/-- What was read, in a slice of its own. -/
theorem got_yes (hT : ReaderAt w B 3 r) : Calls Tryd.prog 20 #[.pointer (some ⟨B, 0, none⟩)] w fun e w' => ∃ d, e = .returned (.tuple #[.slice (some ⟨d, 0, none⟩) r.k.n r.k.n, .bool true]) ∧ w'.rowIs d 75 32 (fun i => .int .u32 (r.ws i)) ∧ w.heap.size ≤ d ∧ Below w.heap.size w w' := by
  have k1 := hT.k.c1
  have k2 := hT.k.c2
  have nr := hT.k.nr
  have hi : (Tryd.prog.info? 75).map (·.size) = some (cells32 r.ws).length := by rw [cells32_len]; exact (zero_of_info info75).2
  have hrow : Hid (w.rangeAt B 6 (cells32 r.ws)) := Lib.hid fun j v hv => by
    have hj : j < 32 := by
      rcases Nat.lt_or_ge j 32 with h | h
      · exact h
      · rw [List.getElem?_eq_none (by rw [cells32_len]; omega)] at hv; cases hv
    simp only [cells32, List.getElem?_map, List.getElem?_range hj, Option.map_some, Option.some.injEq] at hv
    subst hv
    exact hT.ws j hj
  have hz := (zero_of_info info75).1
  have hst : (storeCells ⟨w.heap.size, 0, none⟩ (cells32 r.ws) 0).run Tryd.prog (w.alloc (.cells (madeCells #[.int .u32 0] 32) 75)) = .ok () (w.alloc (.cells (cells32 r.ws).toArray 75)) :=
    run_storeCells_new (P := Tryd.prog) w 75 (madeCells #[.int .u32 0] 32) (cells32 r.ws).toArray (by rw [hi, List.size_toArray]) (by rw [size_madeCells, List.size_toArray, cells32_len]) (by
      rw [Array.all_eq_true_iff_forall_mem]
      intro v hv
      simp only [cells32, List.mem_toArray, List.mem_map] at hv
      obtain ⟨_, _, rfl⟩ := hv
      rfl)
  have HI := Lib.hid hi
  have HT := Lib.hid hT
  clear hT hi
  go_enter Tryd.func20, Tryd.ntmps20
  go_wp2_with (with_reducible refine wpList_load_mid rfl 75 (.tmp 13) rfl B 6 rfl (cells32 r.ws) (.array 32 22) hrow.out u75 rfl HI.out ?_)
  have kk := al_cell (o := .cells (cells32 r.ws).toArray 75) k1
  have n0 : (0 : Int) ≤ r.k.n := by omega
  have n1 : (r.k.n : Int) ≤ 32 := by omega
  have n2 : (r.k.n : Int) ≤ r.k.n := by omega
  go_quiet (fail)
  go_wp2_with fail
  go_ret2
  refine ⟨w.heap.size, rfl, ?_, Nat.le_refl _, below_drewN ((Below.refl _ _).alloc (Nat.le_refl _) _) _⟩
  refine ⟨(cells32 r.ws).toArray, heap_alloc_new _ _, by rw [List.size_toArray, cells32_len], fun i hi => ?_⟩
  simp [cells32, hi]
end
end Go.Proofs.YtoaaeamogpdcgaaDoor
