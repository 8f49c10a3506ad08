/-
  Puts one behind the other, pure: together they are one writer of many versions.
-/
import Derived.Test.YtggpljhlfhhcaaaDoorSeq
namespace Go.Proofs.YtggpljhlfhhcaaaDoor
open Go.RowKit

/-- The versions that messages and ticks are. -/
def manyF (M : Nat → ByteArray) (T : Nat → Int) (k : Nat) : Ver := ⟨none, 4, 0, slotV (M k) (T k)⟩
def cfgM (M : Nat → ByteArray) (T : Nat → Int) : Cfg := ⟨0, 4, 100, manyF M T, 0⟩
theorem cfgM_ok (M : Nat → ByteArray) (T : Nat → Int) : (cfgM M T).Ok 5 :=
  ⟨by show 1 ≤ 4; omega, by show 0 + 4 < 5; omega, by show 1 ≤ 100; omega, by show 100 ≤ 1000000; omega, by show (0 : Int) ≤ 0 ∧ (0 : Int) < 4294967296 ∧ (0 : Int) % 2 = 0; omega⟩
/-- The one writer, while the put number i is at work. -/
def absS (M : Nat → ByteArray) (T : Nat → Int) (i : Nat) (s : Wr) : Wr := ⟨{ s.k with ph := if s.k.ph = 3 then 0 else s.k.ph }, 100, flatV 4 (manyF M T), i + s.wr⟩
/-- The one writer between puts. -/
def absI (M : Nat → ByteArray) (T : Nat → Int) (i : Nat) : Wr := ⟨⟨0, 4, 0, 0⟩, 100, flatV 4 (manyF M T), i⟩
/-- The put number i. -/
structure PutI (M : Nat → ByteArray) (T : Nat → Int) (i : Nat) (s : Wr) : Prop where
  at' : s.k.at' = 0
  n : s.k.n = 4
  L : s.L = 1
  V : ∀ q, q < 4 → s.V q = slotV (M i) (T i) q
  ph : s.k.ph ≤ 3
  wr : s.wr = if s.k.ph = 3 then 1 else 0
  pa : s.k.pa < 4 ∧ (s.k.ph ≠ 1 → s.k.pa = 0)
theorem puti_0 (M : Nat → ByteArray) (T : Nat → Int) (i : Nat) : PutI M T i (putS 0 8 (M i) (T i)) ∧ absS M T i (putS 0 8 (M i) (T i)) = absI M T i := by
  refine ⟨⟨rfl, rfl, rfl, fun q hq => ?_, by show 0 ≤ 3; omega, rfl, by show 0 < 4; omega, fun _ => rfl⟩, rfl⟩
  show flatV 4 (slotF (M i) (T i) 8 none 0) q = _
  unfold flatV
  rw [Nat.mod_eq_of_lt hq]
  rfl
section
variable {M : Nat → ByteArray} {T : Nat → Int} {i : Nat} {s : Wr} {f : Nat → Int} {b : Nat} {r : Rd}
theorem PutI.over (h : PutI M T i s) (hp : s.k.ph = 3) : absS M T i s = absI M T (i + 1) := by
  obtain ⟨⟨a, n, ph, pa⟩, L, V, wr⟩ := s
  have h1 := h.at'
  have h2 := h.n
  have h3 := h.wr
  have h4 := h.pa.2
  simp only at h1 h2 h3 h4 hp
  subst hp
  rw [if_pos rfl] at h3
  have h4 := h4 (by omega)
  subst h1 h2 h3 h4
  rfl
theorem PutI.whin (h : PutI M T i s) : 0 ≤ s.k.wh ∧ s.k.wh < (5 : Nat) := by
  have h1 := h.at'
  have h2 := h.pa
  unfold Wk.wh
  split <;> omega
theorem absS_ph (hp : s.k.ph < 3) : (absS M T i s).k.ph = s.k.ph := by
  show (if s.k.ph = 3 then 0 else s.k.ph) = _
  rw [if_neg (by omega)]
theorem absS_wh (hp : s.k.ph < 3) : (absS M T i s).k.wh = s.k.wh := by
  unfold Wk.wh
  rw [absS_ph hp]
  rfl
theorem flat_many {q : Nat} (hq : q < 4) : flatV 4 (manyF M T) (i * 4 + q) = slotV (M i) (T i) q := by
  rw [flatV_at hq]
  rfl
theorem absS_k (hp : s.k.ph < 3) : (absS M T i s).k = s.k := by
  obtain ⟨⟨a, n, ph, pa⟩, L, V, wr⟩ := s
  have hp : ph < 3 := hp
  show (⟨a, n, if ph = 3 then 0 else ph, pa⟩ : Wk) = _
  rw [if_neg (by omega)]
/-- A put's step is the one writer's. -/
theorem PutI.step (h : PutI M T i s) (hi : i < 90) (hp : s.k.ph < 3) : PutI M T i (s.step 5) ∧ (absS M T i s).step 5 = absS M T i (s.step 5) ∧ (absS M T i s).word 5 f = s.word 5 f := by
  have hw := h.whin
  have hwr := h.wr
  rw [if_neg (by omega)] at hwr
  have e1 := absS_ph (M := M) (T := T) (i := i) hp
  have e2 := absS_wh (M := M) (T := T) (i := i) hp
  have e3 := absS_k (M := M) (T := T) (i := i) hp
  have hw' : 0 ≤ (absS M T i s).k.wh ∧ (absS M T i s).k.wh < (5 : Nat) := by rw [e2]; exact hw
  obtain ⟨j, hj⟩ : ∃ j : Nat, s.k.wh = j := ⟨s.k.wh.toNat, by omega⟩
  have hj5 : j < 5 := by omega
  have hc : s.k.ph = 0 ∨ s.k.ph = 1 ∨ s.k.ph = 2 := by omega
  rcases hc with e | e | e
  · rw [Wr.step0 e hw, Wr.step0 (by rw [e1]; exact e) hw', Wr.word02 (.inl (by rw [e1]; exact e)) (by rw [e2]; exact hj) hj5, Wr.word02 (.inl e) hj hj5]
    refine ⟨⟨h.at', h.n, h.L, h.V, by show 1 ≤ 3; omega, hwr, h.pa.1, fun hh => absurd rfl hh⟩, ?_, rfl⟩
    rw [e3]
    rfl
  · have hV : (absS M T i s).V ((absS M T i s).wr * (absS M T i s).k.n + (absS M T i s).k.pa) = s.V (s.wr * s.k.n + s.k.pa) := by
      have hpa := h.pa.1
      rw [hwr, e3, h.n, h.V _ (by omega)]
      show flatV 4 (manyF M T) ((i + s.wr) * 4 + s.k.pa) = _
      rw [hwr, Nat.add_zero, flat_many hpa]
      congr 1
      omega
    rw [Wr.step1 e hw, Wr.step1 (by rw [e1]; exact e) hw', Wr.word1 (by rw [e1]; exact e) (by rw [e2]; exact hj) hj5, Wr.word1 e hj hj5, hV]
    refine ⟨?_, ?_, rfl⟩
    · by_cases hx : s.k.pa + 1 < s.k.n
      · rw [Wk.pass_yes hx]
        exact ⟨h.at', h.n, h.L, h.V, by show 1 ≤ 3; omega, hwr, by show s.k.pa + 1 < 4; rw [← h.n]; exact hx, fun hh => absurd rfl hh⟩
      · rw [Wk.pass_no hx]
        exact ⟨h.at', h.n, h.L, h.V, by show 2 ≤ 3; omega, hwr, by show 0 < 4; omega, fun _ => rfl⟩
    · rw [e3]
      by_cases hx : s.k.pa + 1 < s.k.n
      · rw [Wk.pass_yes hx]; rfl
      · rw [Wk.pass_no hx]; rfl
  · rw [Wr.step2 e hw, Wr.step2 (by rw [e1]; exact e) hw', Wr.word02 (.inr (by rw [e1]; exact e)) (by rw [e2]; exact hj) hj5, Wr.word02 (.inr e) hj hj5]
    have q1 : (if s.wr + 1 = s.L then 3 else 0) = 3 := by rw [if_pos (by rw [hwr, h.L])]
    have q2 : (if (absS M T i s).wr + 1 = (absS M T i s).L then 3 else 0) = 0 := by
      rw [if_neg]
      show ¬ i + s.wr + 1 = 100
      omega
    rw [q1, q2, e3]
    have hpa := h.pa.2 (by omega)
    refine ⟨⟨h.at', h.n, h.L, h.V, by show 3 ≤ 3; omega, by show s.wr + 1 = 1; omega, h.pa.1, fun _ => hpa⟩, ?_, rfl⟩
    rfl
/-- What is kept while puts and gets do their steps. -/
structure Kept (M : Nat → ByteArray) (T : Nat → Int) (S : Wr) (f : Nat → Int) (b : Nat) (r : Rd) : Prop where
  wi : WInv (cfgM M T) S f
  ri : RInv (cfgM M T) S f b r
theorem kept_0 (M : Nat → ByteArray) (T : Nat → Int) : Kept M T (absI M T 0) (fun _ => 0) 0 (rd0 0 4) :=
  ⟨winv0 (cfgM M T) 5 (cfgM_ok M T) (fun _ => 0) rfl fun _ _ => rfl, rinv0 (cfgM M T) 5 (cfgM_ok M T) _ _ 0 (Nat.le_refl _)⟩
theorem Kept.write {S : Wr} (h : Kept M T S f b r) : Kept M T (S.step 5) (S.word 5 f) b r :=
  ⟨(h.wi.step (cfgM_ok M T)).1, h.ri.write h.wi (cfgM_ok M T)⟩
theorem Kept.anew {S : Wr} (h : Kept M T S f b r) : Kept M T S f b (rd0 0 4) :=
  ⟨h.wi, rinv0 (cfgM M T) 5 (cfgM_ok M T) S f b h.ri.bw⟩
theorem Kept.read {S : Wr} (h : Kept M T S f b r) : ((r.step 5 f).tr = r.tr ∧ Kept M T S f b (r.step 5 f)) ∨ ((r.step 5 f).tr = r.tr + 1 ∧ (r.step 5 f).k.ph = 1 ∧ Kept M T S f S.wr (r.step 5 f)) := by
  rcases h.ri.read h.wi (cfgM_ok M T) with ⟨h1, h2⟩ | ⟨_, h1, h2, h3⟩
  · exact .inl ⟨h1, h.wi, h2⟩
  · exact .inr ⟨h1, h3, h.wi, h2⟩
/-- The messages that have been written, nothing ahead of them. -/
def wasM (M : Nat → ByteArray) (k : Nat) : ByteArray := if k = 0 then ⟨#[]⟩ else M (k - 1)
def whenT (T : Nat → Int) (k : Nat) : Int := if k = 0 then 0 else T (k - 1)
/-- What was read is one of them. -/
theorem Kept.said {S : Wr} (h : Kept M T S f b r) (hp : r.k.ph = 3) (hm : ∀ k, (M k).size ≤ 8) : r.k.n = 2 + need 8 ∧ textN (fun q => r.ws (2 + q)) (min (r.ws 1) (8 : Nat)).toNat = wasM M b ∧ r.ws 0 = whenT T b ∧ b ≤ S.wr := by
  have h3 := h.ri.w3 hp
  refine ⟨h.ri.en, ?_, ?_, h.ri.bw⟩
  · unfold wasM
    by_cases e : b = 0
    · subst e
      rw [if_pos rfl]
      have h1 : r.ws 1 = 0 := h3 1 (by show 1 < 4; omega)
      rw [h1]
      rfl
    · rw [if_neg e]
      refine (Go.Proofs.YtggpljhlfhhcaaaDoor.said (sz := 8) (tick := T (b - 1)) (hm (b - 1)) fun j hj => ?_).1
      rw [h3 j hj]
      unfold verN
      rw [if_neg e]
      rfl
  · rw [h3 0 (by show 0 < 4; omega)]
    unfold verN whenT
    split <;> rfl
end
/-- The message that is written for one of a list; its tick. -/
def msgW (L : List ByteArray) (k : Nat) : ByteArray := if 8 < (L.getD k ByteArray.empty).size then (L.getD k ByteArray.empty).extract 0 8 else if (L.getD k ByteArray.empty).size = 0 then ⟨#[101]⟩ else L.getD k ByteArray.empty
def tickW (l : List Int) (k : Nat) : Int := if k < l.length then l.getD k 0 else k
theorem msgW_size (L : List ByteArray) (k : Nat) : 1 ≤ (msgW L k).size ∧ (msgW L k).size ≤ 8 := by
  unfold msgW
  split
  · rw [ByteArray.size_extract]
    omega
  · split
    · exact ⟨by decide, by decide⟩
    · omega
theorem tickW_rng {l : List Int} (h : ∀ i, 0 ≤ l.getD i 0 ∧ l.getD i 0 < 4294967296) {k : Nat} (hk : k < 100) : 0 ≤ tickW l k ∧ tickW l k < 4294967296 := by
  unfold tickW
  split
  · exact h k
  · omega
end Go.Proofs.YtggpljhlfhhcaaaDoor
