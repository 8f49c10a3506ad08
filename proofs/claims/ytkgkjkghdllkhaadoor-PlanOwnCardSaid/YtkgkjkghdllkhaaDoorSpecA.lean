/-
  What is decoded are the bytes that were encoded; what was encoded is decoded again; what is cut off is told.
-/
import Derived.Test.YtkgkjkghdllkhaaDoorSpec
namespace Go.Proofs.YtkgkjkghdllkhaaDoor

section
variable {α β : Type} {s s0 : ByteArray}

/-- The bytes from k up to m. -/
def sl (s : ByteArray) (k m : Nat) : List Int := (List.range (m - k)).map fun i => byteI s (k + i)
theorem sl_length (s : ByteArray) (k m : Nat) : (sl s k m).length = m - k := by simp [sl]
theorem sl_self (s : ByteArray) (k : Nat) : sl s k k = [] := by simp [sl]
theorem sl_append (s : ByteArray) {k m n : Nat} (h1 : k ≤ m) (h2 : m ≤ n) : sl s k m ++ sl s m n = sl s k n := by
  unfold sl
  rw [show n - k = (m - k) + (n - m) by omega, List.range_add, List.map_append, List.map_map]
  congr 1
  apply List.map_congr_left
  intro i _
  show byteI s (m + i) = byteI s (k + (m - k + i))
  congr 1
  omega
theorem sl_one (s : ByteArray) (k : Nat) : sl s k (k + 1) = [byteI s k] := by simp [sl]
theorem sl_two (s : ByteArray) (k : Nat) : sl s k (k + 2) = [byteI s k, byteI s (k + 1)] := by
  unfold sl
  rw [show k + 2 - k = 2 by omega]
  rfl

/-- A decoder that has failed leaves the reader as it is. -/
def Stay (f : St → α × St) : Prop := ∀ k, (f (k, true)).2 = (k, true)
theorem stay_ret (x : α) : Stay (ret x) := fun _ => rfl
theorem stay_bnd {f : St → α × St} {g : α → St → β × St} (hf : Stay f) (hg : ∀ x, Stay (g x)) : Stay (bnd f g) := fun k => by
  unfold bnd
  rw [hf k]
  exact hg _ k
theorem stay_rep {f : St → α × St} (hf : Stay f) : ∀ n, Stay (rep f n)
  | 0 => fun _ => rfl
  | n + 1 => fun k => by
    rw [rep, stay_rep hf n k]
    exact hf k
theorem stay_d8 (s : ByteArray) : Stay (d8 s) := fun k => by simp [d8, lacks_true, nextAt]
theorem stay_d16 (s : ByteArray) : Stay (d16 s) := fun k => by simp [d16, lacks_true, nextAt]
theorem stay_win (s : ByteArray) : Stay (dWin s) := stay_bnd (stay_d16 s) fun _ => stay_bnd (stay_d16 s) fun _ => stay_bnd (stay_d8 s) fun _ => stay_bnd (stay_d8 s) fun _ => stay_ret _
theorem stay_core (s : ByteArray) : Stay (dCore s) := stay_bnd (stay_d16 s) fun _ => stay_rep (stay_win s) _
theorem stay_sem (s : ByteArray) : Stay (dSem s) := stay_bnd (stay_d8 s) fun _ => stay_bnd (stay_d8 s) fun _ => stay_ret _
theorem stay_pair (s : ByteArray) : Stay (dPair s) := stay_bnd (stay_d8 s) fun _ => stay_bnd (stay_d8 s) fun _ => stay_ret _
theorem stay_chan (s : ByteArray) : Stay (dChan s) := stay_bnd (stay_d8 s) fun _ => stay_bnd (stay_d8 s) fun _ => stay_bnd (stay_d8 s) fun _ => stay_bnd (stay_d8 s) fun _ => stay_bnd (stay_d8 s) fun _ => stay_bnd (stay_d16 s) fun _ => stay_ret _
theorem stay_part (s : ByteArray) : Stay (dPart s) := stay_bnd (stay_d8 s) fun _ => stay_bnd (stay_rep (stay_sem s) _) fun _ => stay_bnd (stay_d8 s) fun _ => stay_bnd (stay_d8 s) fun _ => stay_bnd (stay_rep (stay_d8 s) _) fun _ =>
  stay_bnd (stay_d8 s) fun _ => stay_bnd (stay_d8 s) fun _ => stay_bnd (stay_d8 s) fun _ => stay_ret _
theorem stay_plan (s : ByteArray) : Stay (dPlan s) := stay_bnd (stay_d16 s) fun _ => stay_bnd (stay_d8 s) fun _ => stay_bnd (stay_d8 s) fun _ => stay_bnd (stay_d8 s) fun _ => stay_bnd (stay_d8 s) fun _ =>
  stay_bnd (stay_rep (stay_core s) _) fun _ => stay_bnd (stay_rep (stay_part s) _) fun _ => stay_bnd (stay_rep (stay_chan s) _) fun _ => stay_bnd (stay_rep (stay_pair s) _) fun _ => stay_ret _

/-- What a decoder gives that hasn't failed fits the bytes that it has read. -/
def Sound (s : ByteArray) (f : St → α × St) (R : α → List Int → Prop) : Prop :=
  ∀ k, k ≤ s.size → (f (k, false)).2.2 = false → k ≤ (f (k, false)).2.1 ∧ (f (k, false)).2.1 ≤ s.size ∧ R (f (k, false)).1 (sl s k (f (k, false)).2.1)
theorem Sound.mono {f : St → α × St} {R R' : α → List Int → Prop} (h : Sound s f R) (hr : ∀ x l, R x l → R' x l) : Sound s f R' := fun k hk hb =>
  ⟨(h k hk hb).1, (h k hk hb).2.1, hr _ _ (h k hk hb).2.2⟩
theorem sound_ret (x : α) : Sound s (ret x) fun y l => y = x ∧ l = [] := fun k hk _ => ⟨Nat.le_refl _, hk, rfl, sl_self s k⟩
theorem sound_bnd {f : St → α × St} {g : α → St → β × St} {R : α → List Int → Prop} {R' : α → β → List Int → Prop} (hf : Sound s f R) (hg : ∀ x, Sound s (g x) (R' x)) (hs : ∀ x, Stay (g x)) :
    Sound s (bnd f g) fun y l => ∃ x l1 l2, l = l1 ++ l2 ∧ R x l1 ∧ R' x y l2 := fun k hk hb => by
  unfold bnd at hb ⊢
  obtain ⟨k1, b1, hk1⟩ : ∃ k1 b1, (f (k, false)).2 = (k1, b1) := ⟨_, _, rfl⟩
  rw [hk1] at hb ⊢
  cases b1
  · obtain ⟨a1, a2, a3⟩ := hf k hk (by rw [hk1])
    rw [hk1] at a1 a2 a3
    obtain ⟨c1, c2, c3⟩ := hg (f (k, false)).1 k1 a2 hb
    exact ⟨Nat.le_trans a1 c1, c2, _, _, _, (sl_append s a1 c1).symm, a3, c3⟩
  · rw [hs] at hb
    cases hb
theorem sound_d8 : Sound s (d8 s) fun x l => l = [x] ∧ byte x := fun k hk hb => by
  have hl : lacks s k false 1 = false := hb
  obtain ⟨_, h1⟩ := lacks_no hl
  have e1 : (d8 s (k, false)).1 = byteI s k := by simp [d8, hl]
  have e2 : (d8 s (k, false)).2.1 = k + 1 := by simp [d8, nextAt, hl]
  rw [e1, e2, sl_one]
  exact ⟨by omega, by omega, rfl, byteI_bounds s k⟩
theorem two_of {a b : Int} (h : 0 ≤ b ∧ b ≤ 255) : two (a * 256 + b) = [a, b] := by
  unfold two
  rw [show (a * 256 + b) / 256 = a by omega, show (a * 256 + b) % 256 = b by omega]
theorem sound_d16 : Sound s (d16 s) fun x l => l = two x ∧ wide x := fun k hk hb => by
  have hl : lacks s k false 2 = false := hb
  obtain ⟨_, h1⟩ := lacks_no hl
  have e1 : (d16 s (k, false)).1 = byteI s k * 256 + byteI s (k + 1) := by simp [d16, hl]
  have e2 : (d16 s (k, false)).2.1 = k + 2 := by simp [d16, nextAt, hl]
  have b0 := byteI_bounds s k
  have b1 := byteI_bounds s (k + 1)
  rw [e1, e2, sl_two]
  exact ⟨by omega, by omega, (two_of b1).symm, by constructor <;> omega⟩
theorem sound_rep {f : St → α × St} {e : α → List Int} {W : α → Prop} (hf : Sound s f fun x l => l = e x ∧ W x) (hs : Stay f) : ∀ n, Sound s (rep f n) fun xs l => xs.length = n ∧ l = xs.flatMap e ∧ ∀ x ∈ xs, W x
  | 0 => fun k hk _ => ⟨Nat.le_refl _, hk, rfl, sl_self s k, fun _ h => by cases h⟩
  | n + 1 => fun k hk hb => by
    have ih := sound_rep hf hs n k hk
    rw [rep] at hb ⊢
    obtain ⟨k1, b1, hk1⟩ : ∃ k1 b1, (rep f n (k, false)).2 = (k1, b1) := ⟨_, _, rfl⟩
    rw [hk1] at hb ih ⊢
    cases b1
    · obtain ⟨a1, a2, a3, a4, a5⟩ := ih rfl
      obtain ⟨c1, c2, c3, c4⟩ := hf k1 a2 hb
      refine ⟨Nat.le_trans a1 c1, c2, by simp [a3], ?_, ?_⟩
      · rw [← sl_append s a1 c1, a4, c3]
        simp
      · intro x hx
        rcases List.mem_append.1 hx with hx | hx
        · exact a5 x hx
        · obtain rfl := List.mem_singleton.1 hx
          exact c4
    · rw [hs] at hb
      cases hb
theorem sound_win : Sound s (dWin s) fun x l => l = encWin x ∧ WfWin x :=
  (sound_bnd sound_d16 (fun _ => sound_bnd sound_d16 (fun _ => sound_bnd sound_d8 (fun _ => sound_bnd sound_d8 (fun _ => sound_ret _) fun _ => stay_ret _) fun _ => stay_bnd (stay_d8 s) fun _ => stay_ret _)
    fun _ => stay_bnd (stay_d8 s) fun _ => stay_bnd (stay_d8 s) fun _ => stay_ret _) fun _ => stay_bnd (stay_d16 s) fun _ => stay_bnd (stay_d8 s) fun _ => stay_bnd (stay_d8 s) fun _ => stay_ret _).mono fun x l h => by
    obtain ⟨a, l1, l2, rfl, ⟨rfl, h1⟩, b, l1, l2, rfl, ⟨rfl, h2⟩, c, l1, l2, rfl, ⟨rfl, h3⟩, d, l1, l2, rfl, ⟨rfl, h4⟩, rfl, rfl⟩ := h
    exact ⟨by simp [encWin], h1, h2, h3, h4⟩
theorem toNat_len {n : Int} {l : List α} (h0 : 0 ≤ n) (h : l.length = n.toNat) : (l.length : Int) = n := by omega
theorem sound_core : Sound s (dCore s) fun x l => l = encCore x ∧ (x.length ≤ 65535 ∧ ∀ w ∈ x, WfWin w) :=
  (sound_bnd sound_d16 (fun _ => sound_rep sound_win (stay_win s) _) fun _ => stay_rep (stay_win s) _).mono fun x l h => by
    obtain ⟨n, l1, l2, rfl, ⟨rfl, h1⟩, h2, rfl, h3⟩ := h
    have e := toNat_len h1.1 h2
    exact ⟨by unfold encCore; rw [e], by have := h1.2; omega, h3⟩
theorem sound_sem : Sound s (dSem s) fun x l => l = encSem x ∧ WfSem x :=
  (sound_bnd sound_d8 (fun _ => sound_bnd sound_d8 (fun _ => sound_ret _) fun _ => stay_ret _) fun _ => stay_bnd (stay_d8 s) fun _ => stay_ret _).mono fun x l h => by
    obtain ⟨c, l1, l2, rfl, ⟨rfl, h3⟩, d, l1, l2, rfl, ⟨rfl, h4⟩, rfl, rfl⟩ := h
    exact ⟨rfl, h3, h4⟩
theorem sound_pair : Sound s (dPair s) fun x l => l = encPair x ∧ WfPair x :=
  (sound_bnd sound_d8 (fun _ => sound_bnd sound_d8 (fun _ => sound_ret _) fun _ => stay_ret _) fun _ => stay_bnd (stay_d8 s) fun _ => stay_ret _).mono fun x l h => by
    obtain ⟨c, l1, l2, rfl, ⟨rfl, h3⟩, d, l1, l2, rfl, ⟨rfl, h4⟩, rfl, rfl⟩ := h
    exact ⟨rfl, h3, h4⟩
theorem sound_chan : Sound s (dChan s) fun x l => l = encChan x ∧ WfChan x :=
  (sound_bnd sound_d8 (fun _ => sound_bnd sound_d8 (fun _ => sound_bnd sound_d8 (fun _ => sound_bnd sound_d8 (fun _ => sound_bnd sound_d8 (fun _ => sound_bnd sound_d16 (fun _ => sound_ret _)
    fun _ => stay_ret _) fun _ => stay_bnd (stay_d16 s) fun _ => stay_ret _) fun _ => stay_bnd (stay_d8 s) fun _ => stay_bnd (stay_d16 s) fun _ => stay_ret _)
    fun _ => stay_bnd (stay_d8 s) fun _ => stay_bnd (stay_d8 s) fun _ => stay_bnd (stay_d16 s) fun _ => stay_ret _)
    fun _ => stay_bnd (stay_d8 s) fun _ => stay_bnd (stay_d8 s) fun _ => stay_bnd (stay_d8 s) fun _ => stay_bnd (stay_d16 s) fun _ => stay_ret _)
    fun _ => stay_bnd (stay_d8 s) fun _ => stay_bnd (stay_d8 s) fun _ => stay_bnd (stay_d8 s) fun _ => stay_bnd (stay_d8 s) fun _ => stay_bnd (stay_d16 s) fun _ => stay_ret _).mono fun x l h => by
    obtain ⟨a, l1, l2, rfl, ⟨rfl, h1⟩, b, l1, l2, rfl, ⟨rfl, h2⟩, c, l1, l2, rfl, ⟨rfl, h3⟩, d, l1, l2, rfl, ⟨rfl, h4⟩, e, l1, l2, rfl, ⟨rfl, h5⟩, f, l1, l2, rfl, ⟨rfl, h6⟩, rfl, rfl⟩ := h
    exact ⟨by simp [encChan], h1, h2, h3, h4, h5, h6⟩
theorem sound_part : Sound s (dPart s) fun x l => l = encPart x ∧ ((x.1.length ≤ 255 ∧ x.2.2.1.length ≤ 255) ∧ WfPart x) := by
  refine (sound_bnd sound_d8 (fun _ => sound_bnd (sound_rep sound_sem (stay_sem s) _) (fun _ => sound_bnd sound_d8 (fun _ => sound_bnd sound_d8 (fun _ => sound_bnd (sound_rep (e := fun x => [x]) (W := byte) sound_d8 (stay_d8 s) _)
    (fun _ => sound_bnd sound_d8 (fun _ => sound_bnd sound_d8 (fun _ => sound_bnd sound_d8 (fun _ => sound_ret _) fun _ => ?_) fun _ => ?_) fun _ => ?_) fun _ => ?_) fun _ => ?_) fun _ => ?_) fun _ => ?_) fun _ => ?_).mono fun x l h => ?_
  case refine_9 =>
    obtain ⟨n, l1, l2, rfl, ⟨rfl, h1⟩, sems, l1, l2, rfl, ⟨h2, rfl, h3⟩, ev, l1, l2, rfl, ⟨rfl, h4⟩, m, l1, l2, rfl, ⟨rfl, h5⟩, procs, l1, l2, rfl, ⟨h6, rfl, h7⟩, x, l1, l2, rfl, ⟨rfl, h8⟩, y, l1, l2, rfl, ⟨rfl, h9⟩, z, l1, l2, rfl, ⟨rfl, h10⟩, rfl, rfl⟩ := h
    have e1 := toNat_len h1.1 h2
    have e2 := toNat_len h5.1 h6
    have b1 := h1.2
    have b2 := h5.2
    refine ⟨?_, ⟨by show sems.length ≤ 255; omega, by show procs.length ≤ 255; omega⟩, h3, h4, h7, h8, h9, h10⟩
    simp [encPart, e1, e2]
  all_goals
    repeat (first | exact stay_ret _ | exact stay_d8 s | exact stay_rep (stay_d8 s) _ | exact stay_rep (stay_sem s) _ | refine stay_bnd ?_ fun _ => ?_)
theorem sound_plan : Sound s (dPlan s) fun x l => magicL ++ l = enc x ∧ (Fits x ∧ WfPlan x) := by
  refine (sound_bnd sound_d16 (fun _ => sound_bnd sound_d8 (fun _ => sound_bnd sound_d8 (fun _ => sound_bnd sound_d8 (fun _ => sound_bnd sound_d8 (fun _ => sound_bnd (sound_rep sound_core (stay_core s) _)
    (fun _ => sound_bnd (sound_rep sound_part (stay_part s) _) (fun _ => sound_bnd (sound_rep sound_chan (stay_chan s) _) (fun _ => sound_bnd (sound_rep sound_pair (stay_pair s) _) (fun _ => sound_ret _)
    fun _ => ?_) fun _ => ?_) fun _ => ?_) fun _ => ?_) fun _ => ?_) fun _ => ?_) fun _ => ?_) fun _ => ?_) fun _ => ?_).mono fun x l h => ?_
  case refine_10 =>
    obtain ⟨fr, l1, l2, rfl, ⟨rfl, h1⟩, nc, l1, l2, rfl, ⟨rfl, h2⟩, np, l1, l2, rfl, ⟨rfl, h3⟩, nh, l1, l2, rfl, ⟨rfl, h4⟩, nr, l1, l2, rfl, ⟨rfl, h5⟩, cs, l1, l2, rfl, ⟨g1, rfl, w1⟩, ps, l1, l2, rfl, ⟨g2, rfl, w2⟩, hs, l1, l2, rfl, ⟨g3, rfl, w3⟩, rs, l1, l2, rfl, ⟨g4, rfl, w4⟩, rfl, rfl⟩ := h
    have e1 := toNat_len h2.1 g1
    have e2 := toNat_len h3.1 g2
    have e3 := toNat_len h4.1 g3
    have e4 := toNat_len h5.1 g4
    have b1 := h2.2
    have b2 := h3.2
    have b3 := h4.2
    have b4 := h5.2
    refine ⟨?_, ⟨by show cs.length ≤ 255; omega, by show ps.length ≤ 255; omega, by show hs.length ≤ 255; omega, by show rs.length ≤ 255; omega, fun ws hw => (w1 ws hw).1, fun q hq => (w2 q hq).1⟩,
      h1, fun ws hw => (w1 ws hw).2, fun q hq => (w2 q hq).2, w3, w4⟩
    simp [enc, encHead, e1, e2, e3, e4]
  all_goals
    repeat (first | exact stay_ret _ | exact stay_d8 s | exact stay_rep (stay_core s) _ | exact stay_rep (stay_part s) _ | exact stay_rep (stay_chan s) _ | exact stay_rep (stay_pair s) _ | refine stay_bnd ?_ fun _ => ?_)

theorem bytesL_sl (s : ByteArray) : bytesL (sl s 0 s.size) = s := by
  apply ByteArray.ext
  apply Array.toList_inj.1
  unfold bytesL sl
  apply List.ext_getElem
  · simp
  · intro i h1 h2
    have hi : i < s.data.toList.length := h2
    simp only [List.getElem_map, List.getElem_range, Nat.zero_add]
    unfold byteI
    rw [List.getD_eq_getElem?_getD, List.getElem?_eq_getElem hi]
    simp
theorem magic_sl {s : ByteArray} (h : magicB s = true) : sl s 0 4 = magicL := by
  unfold magicB at h
  obtain ⟨h0, h1, h2, h3⟩ := of_decide_eq_true h
  show [byteI s (0 + 0), byteI s (0 + 1), byteI s (0 + 2), byteI s (0 + 3)] = _
  simp [h0, h1, h2, h3, magicL]
/-- What is decoded has just these bytes, and no list of it is too long. -/
theorem dec_one {s : ByteArray} (h : decE s = 0) : bytesL (enc (decP s)) = s ∧ Fits (decP s) ∧ WfPlan (decP s) := by
  have hp : decP s = (dPlan s (4, false)).1 := by unfold decP; rw [if_pos h]
  unfold decE at h
  split at h; · omega
  split at h; · omega
  split at h; · omega
  split at h; · omega
  have hm : magicB s = true := by simpa using ‹¬ magicB s = false›
  have hb : (dPlan s (4, false)).2.2 = false := by simpa using ‹¬ (dPlan s (4, false)).2.2 = true›
  obtain ⟨a1, a2, a3, a4⟩ := sound_plan (s := s) 4 (by omega) hb
  rw [hp]
  refine ⟨?_, a4⟩
  have he : (dPlan s (4, false)).2.1 = s.size := by omega
  rw [← a3, ← magic_sl hm, he, sl_append s (by omega) (by omega), bytesL_sl]
end
end Go.Proofs.YtkgkjkghdllkhaaDoor
