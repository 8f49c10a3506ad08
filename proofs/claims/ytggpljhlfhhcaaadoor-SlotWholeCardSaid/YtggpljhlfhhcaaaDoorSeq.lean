/-
  Puts and gets, pure: one put and one get that nobody disturbs; puts one behind the other as one writer of many versions.
-/
import Derived.Test.YtggpljhlfhhcaaaDoorInv
namespace Go.Proofs.YtggpljhlfhhcaaaDoor
open Go.RowKit

theorem u8_and1 (y : Int) (h : 0 ≤ y ∧ y < 256) : bits .and .u8 y 1 = y % 2 := by
  rw [u8_and y 1 h.1 h.2 (by omega) (by omega)]
  have : y.toNat &&& (1 : Int).toNat = y.toNat % 2 := Nat.and_one_is_mod _
  omega
theorem need8 {n : Nat} (h : n ≤ 32) : need n ≤ 8 := by unfold need; omega
/-- One put. -/
def cfg1 (at' sz : Nat) (m : ByteArray) (tick : Int) : Cfg := ⟨at', 2 + need sz, 1, slotF m tick sz none 0, 0⟩
theorem cfg1_ok {at' sz M : Nat} (m : ByteArray) (tick : Int) (h : at' + (2 + need sz) < M) : (cfg1 at' sz m tick).Ok M :=
  ⟨by show 1 ≤ 2 + need sz; omega, h, by show 1 ≤ 1; omega, by show 1 ≤ 1000000; omega, by show (0 : Int) ≤ 0 ∧ (0 : Int) < 4294967296 ∧ (0 : Int) % 2 = 0; omega⟩
/-- How many steps a reader has done that nobody disturbs. -/
def Rd.tm (r : Rd) : Nat := match r.k.ph with | 0 => 0 | 1 => 1 + r.k.pa | 2 => r.k.n + 1 | _ => r.k.n + 2
structure Calm (cf : Cfg) (s : Wr) (f : Nat → Int) (r : Rd) : Prop where
  ev : s.k.ph = 0 ∨ s.k.ph = 3
  cn : r.k.ph ≠ 0 → f cf.at' = r.cn
theorem calm_step {cf : Cfg} {m : Nat} {s : Wr} {f : Nat → Int} {r : Rd} (hw : WInv cf s f) (ho : cf.Ok m) (hr : RInv cf s f s.wr r) (hc : Calm cf s f r) (hp : r.k.ph < 3) :
    RInv cf s f s.wr (r.step m f) ∧ Calm cf s f (r.step m f) ∧ (r.step m f).tm = r.tm + 1 := by
  have hri : RInv cf s f s.wr (r.step m f) := by
    rcases hr.read hw ho with ⟨_, h⟩ | ⟨_, _, h, _⟩
    · exact h
    · exact h
  refine ⟨hri, ?_⟩
  have hcc : r.k.ph = 0 ∨ r.k.ph = 1 ∨ r.k.ph = 2 := by omega
  have hev := (hw.even ho).2 hc.ev
  have hpa := hr.pa hp
  rcases hcc with e | e | e
  · obtain ⟨i, hi, him, h1, _⟩ := hr.whin ho hp
    have h1 := h1 (by omega)
    subst h1
    have hpz := hpa.2 (by omega)
    rw [Rd.step0 e hi him, if_neg (by omega)]
    refine ⟨⟨hc.ev, fun _ => rfl⟩, ?_⟩
    unfold Rd.tm; rw [e]; simp [hpz]
  · obtain ⟨i, hi, him, _, h1⟩ := hr.whin ho hp
    have hcn := hc.cn (by omega)
    rw [Rd.step1 e hi him]
    by_cases hx : r.k.pa + 1 < r.k.n
    · rw [Wk.pass_yes hx]
      refine ⟨⟨hc.ev, fun _ => hcn⟩, ?_⟩
      unfold Rd.tm; rw [e]; simp; omega
    · rw [Wk.pass_no hx]
      refine ⟨⟨hc.ev, fun _ => hcn⟩, ?_⟩
      unfold Rd.tm; rw [e]; simp; have := hr.en; omega
  · obtain ⟨i, hi, him, h1, _⟩ := hr.whin ho hp
    have h1 := h1 (by omega)
    subst h1
    have hcn := hc.cn (by omega)
    rw [Rd.step2 e hi him, if_pos hcn]
    refine ⟨⟨hc.ev, fun _ => hcn⟩, ?_⟩
    unfold Rd.tm; rw [e]; rfl
theorem rtm_done {cf : Cfg} {s : Wr} {f : Nat → Int} {b : Nat} {r : Rd} (h : RInv cf s f b r) : r.tm ≤ cf.n + 2 ∧ (r.k.ph = 3 ↔ r.tm = cf.n + 2) := by
  have h3 := h.p3
  have hn := h.en
  have hc : r.k.ph = 0 ∨ r.k.ph = 1 ∨ r.k.ph = 2 ∨ r.k.ph = 3 := by omega
  unfold Rd.tm
  rcases hc with e | e | e | e
  · rw [e]; simp
  · have := h.pa (by omega); rw [e]; simp; omega
  · rw [e, hn]; simp
  · rw [e, hn]; simp
/-- What words say that are a message's. -/
theorem said {ws : Nat → Int} {m : ByteArray} {tick : Int} {sz : Nat} (hm : m.size ≤ sz) (h : ∀ j, j < 2 + need sz → ws j = slotV m tick j) : textN (fun q => ws (2 + q)) (min (ws 1) sz).toNat = m ∧ ws 0 = tick := by
  have h1 : ws 1 = m.size := h 1 (by omega)
  have h0 : ws 0 = tick := h 0 (by omega)
  refine ⟨?_, h0⟩
  rw [h1, show (min (m.size : Int) sz).toNat = m.size by omega]
  refine textN_letter fun q hq => ?_
  have := need_le hm
  rw [h (2 + q) (by omega)]
  unfold slotV
  rw [if_neg (by omega), if_neg (by omega)]
  congr 1
  omega
/-- One put, so many steps behind its beginning. -/
structure Put1 (at' sz : Nat) (m : ByteArray) (tick : Int) (k : Nat) (s : Wr) (f : Nat → Int) : Prop where
  wi : WInv (cfg1 at' sz m tick) s f
  tm : s.tm = k
theorem put1_0 {at' sz M : Nat} {m : ByteArray} {tick : Int} (h : at' + (2 + need sz) < M) : Put1 at' sz m tick 0 (putS at' sz m tick) (fun _ => 0) :=
  ⟨winv0 (cfg1 at' sz m tick) M (cfg1_ok m tick h) (fun _ => 0) rfl fun _ _ => rfl, by show 0 * (2 + need sz + 2) + 0 = 0; omega⟩
theorem Put1.step {at' sz M k : Nat} {m : ByteArray} {tick : Int} {s : Wr} {f : Nat → Int} (h : Put1 at' sz m tick k s f) (hM : at' + (2 + need sz) < M) (hk : k < 2 + need sz + 2) :
    Put1 at' sz m tick (k + 1) (s.step M) (s.word M f) ∧ decide (3 ≤ (s.step M).k.ph) = decide (k + 1 = 2 + need sz + 2) := by
  have hd := h.wi.done
  have e1 : (cfg1 at' sz m tick).L * ((cfg1 at' sz m tick).n + 2) = 2 + need sz + 2 := by show 1 * (2 + need sz + 2) = _; omega
  rw [e1] at hd
  have ht := h.tm
  have hp : s.k.ph < 3 := by
    have := h.wi.p3
    rcases Nat.lt_or_ge s.k.ph 3 with h' | h'
    · exact h'
    · have := hd.2.1 (by omega); omega
  obtain ⟨h1, h2, _⟩ := h.wi.step (cfg1_ok m tick hM)
  have hd2 := h1.done
  rw [e1] at hd2
  have h3 := h2 hp
  have h4 := h1.p3
  refine ⟨⟨h1, by omega⟩, ?_⟩
  apply decide_eq_decide.2
  constructor
  · intro h5; have := hd2.2.1 (by omega); omega
  · intro h5; have := hd2.2.2 (by omega); omega
/-- It is done. -/
theorem Put1.done {at' sz : Nat} {m : ByteArray} {tick : Int} {s : Wr} {f : Nat → Int} (h : Put1 at' sz m tick (2 + need sz + 2) s f) : s.k.ph = 3 ∧ s.wr = 1 := by
  have hd := h.wi.done
  have e1 : (cfg1 at' sz m tick).L * ((cfg1 at' sz m tick).n + 2) = 2 + need sz + 2 := by show 1 * (2 + need sz + 2) = _; omega
  rw [e1] at hd
  have := hd.2.2 h.tm
  exact ⟨this, h.wi.wl.2.2 this⟩
/-- A get behind it, so many steps behind its beginning. -/
structure Get1 (at' sz : Nat) (m : ByteArray) (tick : Int) (s : Wr) (f : Nat → Int) (k : Nat) (r : Rd) : Prop where
  ri : RInv (cfg1 at' sz m tick) s f s.wr r
  ca : Calm (cfg1 at' sz m tick) s f r
  tm : r.tm = k
theorem get1_0 {at' sz M : Nat} {m : ByteArray} {tick : Int} {s : Wr} {f : Nat → Int} (hM : at' + (2 + need sz) < M) (h : s.k.ph = 3) : Get1 at' sz m tick s f 0 (rd0 at' (2 + need sz)) :=
  ⟨rinv0 (cfg1 at' sz m tick) M (cfg1_ok m tick hM) s f s.wr (Nat.le_refl _), ⟨.inr h, fun e => absurd rfl e⟩, rfl⟩
theorem Get1.step {at' sz M k : Nat} {m : ByteArray} {tick : Int} {s : Wr} {f : Nat → Int} {r : Rd} (h : Get1 at' sz m tick s f k r) (hw : WInv (cfg1 at' sz m tick) s f) (hM : at' + (2 + need sz) < M) (hk : k < 2 + need sz + 2) :
    Get1 at' sz m tick s f (k + 1) (r.step M f) ∧ decide (3 ≤ (r.step M f).k.ph) = decide (k + 1 = 2 + need sz + 2) := by
  have hd := rtm_done h.ri
  have e1 : (cfg1 at' sz m tick).n + 2 = 2 + need sz + 2 := rfl
  rw [e1] at hd
  have ht := h.tm
  have hp : r.k.ph < 3 := by
    have := h.ri.p3
    rcases Nat.lt_or_ge r.k.ph 3 with h' | h'
    · exact h'
    · have := hd.2.1 (by omega); omega
  obtain ⟨h1, h2, h3⟩ := calm_step hw (cfg1_ok m tick hM) h.ri h.ca hp
  have hd2 := rtm_done h1
  rw [e1] at hd2
  have h4 := h1.p3
  refine ⟨⟨h1, h2, by omega⟩, ?_⟩
  apply decide_eq_decide.2
  constructor
  · intro h5; have := hd2.2.1 (by omega); omega
  · intro h5; have := hd2.2.2 (by omega); omega
/-- What it has read. -/
theorem Get1.said {at' sz : Nat} {m : ByteArray} {tick : Int} {s : Wr} {f : Nat → Int} {r : Rd} (h : Get1 at' sz m tick s f (2 + need sz + 2) r) (hs : s.wr = 1) (hm : m.size ≤ sz) :
    r.k.ph = 3 ∧ r.k.n = 2 + need sz ∧ textN (fun q => r.ws (2 + q)) (min (r.ws 1) sz).toNat = m ∧ r.ws 0 = tick := by
  have hd := (rtm_done h.ri).2.2 h.tm
  refine ⟨hd, h.ri.en, Go.Proofs.YtggpljhlfhhcaaaDoor.said hm fun j hj => ?_⟩
  rw [h.ri.w3 hd j hj, hs]
  rfl
theorem rd_tr (m : Nat) (f : Nat → Int) (r : Rd) : (r.step m f).tr ≤ r.tr + 1 := by
  unfold Rd.step
  split
  · omega
  · split
    · split
      · split
        · omega
        · exact Nat.le_refl _
      · show r.tr ≤ _; omega
      · show r.tr ≤ _; omega
    · show r.tr ≤ _; omega
end Go.Proofs.YtggpljhlfhhcaaaDoor
