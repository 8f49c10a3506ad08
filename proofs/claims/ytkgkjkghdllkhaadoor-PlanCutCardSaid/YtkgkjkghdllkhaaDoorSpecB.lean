/-
  What was encoded is decoded again, whatever stands behind it.
-/
import Derived.Test.YtkgkjkghdllkhaaDoorSpecA
namespace Go.Proofs.YtkgkjkghdllkhaaDoor
section
variable {α β : Type} {s : ByteArray}
/-- From k on the bytes are l. -/
def Has (s : ByteArray) (k : Nat) (l : List Int) : Prop := k + l.length ≤ s.size ∧ ∀ i, i < l.length → byteI s (k + i) = l.getD i 0
theorem Has.left {k : Nat} {l m : List Int} (h : Has s k (l ++ m)) : Has s k l := by
  obtain ⟨h1, h2⟩ := h
  rw [List.length_append] at h1
  refine ⟨by omega, fun i hi => ?_⟩
  rw [h2 i (by rw [List.length_append]; omega), List.getD_eq_getElem?_getD, List.getElem?_append_left hi, List.getD_eq_getElem?_getD]
theorem Has.right {k : Nat} {l m : List Int} (h : Has s k (l ++ m)) : Has s (k + l.length) m := by
  obtain ⟨h1, h2⟩ := h
  rw [List.length_append] at h1
  refine ⟨by omega, fun i hi => ?_⟩
  rw [Nat.add_assoc, h2 (l.length + i) (by rw [List.length_append]; omega), List.getD_eq_getElem?_getD, List.getElem?_append_right (by omega), List.getD_eq_getElem?_getD, Nat.add_sub_cancel_left]
/-- What is encoded is read. -/
def Good (s : ByteArray) (f : St → α × St) (x : α) (l : List Int) : Prop := ∀ k, Has s k l → f (k, false) = (x, (k + l.length, false))
theorem good_ret (x : α) : Good s (ret x) x [] := fun _ _ => rfl
theorem good_bnd {f : St → α × St} {g : α → St → β × St} {x : α} {y : β} {l m : List Int} (hf : Good s f x l) (hg : Good s (g x) y m) : Good s (bnd f g) y (l ++ m) := fun k h => by
  unfold bnd
  rw [hf k h.left]
  show g x (k + l.length, false) = _
  rw [hg _ h.right, List.length_append, Nat.add_assoc]
theorem good_d8 (z : Int) : Good s (d8 s) z [z] := fun k h => by
  obtain ⟨h1, h2⟩ := h
  have h0 := h2 0 (by simp)
  simp at h0 h1
  have hl : lacks s k false 1 = false := lacks_ok (by omega)
  simp [d8, nextAt, hl, h0]
theorem good_d16 {n : Int} (hn : wide n) : Good s (d16 s) n (two n) := fun k h => by
  obtain ⟨h1, h2⟩ := h
  have h0 := h2 0 (by simp [two])
  have h3 := h2 1 (by simp [two])
  simp [two] at h0 h3 h1
  have hl : lacks s k false 2 = false := lacks_ok (by omega)
  obtain ⟨a, b⟩ := hn
  have e : n / 256 * 256 + n % 256 = n := by omega
  simp [d16, nextAt, hl, h0, h3, two, e]
theorem good_rep {f : St → α × St} {e : α → List Int} : ∀ (xs : List α), (∀ x ∈ xs, Good s f x (e x)) → Good s (rep f xs.length) xs (xs.flatMap e)
  | [], _ => fun _ _ => rfl
  | x :: r, h => fun k hk => by
    rw [List.flatMap_cons] at hk
    rw [List.length_cons, rep_cons, h x (List.mem_cons_self ..) k hk.left]
    show (x :: (rep f r.length (k + (e x).length, false)).1, (rep f r.length (k + (e x).length, false)).2) = _
    rw [good_rep r (fun y hy => h y (List.mem_cons_of_mem _ hy)) _ hk.right, List.flatMap_cons, List.length_append, Nat.add_assoc]
theorem Good.cast {f : St → α × St} {x : α} {l m : List Int} (h : Good s f x l) (e : l = m) : Good s f x m := e ▸ h
theorem good_win {w : WinA} (h : WfWin w) : Good s (dWin s) w (encWin w) := by
  obtain ⟨a, b, c, d⟩ := w
  refine Good.cast (l := two a ++ (two b ++ ([c] ++ ([d] ++ [])))) ?_ (by simp [encWin])
  refine good_bnd (good_d16 h.1) ?_
  refine good_bnd (good_d16 h.2.1) ?_
  refine good_bnd (good_d8 c) ?_
  refine good_bnd (good_d8 d) ?_
  exact good_ret _
theorem good_core {ws : List WinA} (hn : ws.length ≤ 65535) (h : ∀ w ∈ ws, WfWin w) : Good s (dCore s) ws (encCore ws) := by
  refine (good_bnd (y := ws) (m := ws.flatMap encWin) (good_d16 (n := (ws.length : Int)) ⟨by omega, by omega⟩) ?_).cast rfl
  rw [Int.toNat_natCast]
  exact good_rep ws fun w hw => good_win (h w hw)
theorem good_sem (w : SemA) : Good s (dSem s) w (encSem w) := by
  obtain ⟨a, b⟩ := w
  refine Good.cast (l := [a] ++ ([b] ++ [])) ?_ rfl
  refine good_bnd (good_d8 a) ?_
  refine good_bnd (good_d8 b) ?_
  exact good_ret _
theorem good_pair (w : PairA) : Good s (dPair s) w (encPair w) := by
  obtain ⟨a, b⟩ := w
  refine Good.cast (l := [a] ++ ([b] ++ [])) ?_ rfl
  refine good_bnd (good_d8 a) ?_
  refine good_bnd (good_d8 b) ?_
  exact good_ret _
theorem good_chan {c : ChanA} (h : WfChan c) : Good s (dChan s) c (encChan c) := by
  obtain ⟨a, b, c, d, e, f⟩ := c
  refine Good.cast (l := [a] ++ ([b] ++ ([c] ++ ([d] ++ ([e] ++ (two f ++ [])))))) ?_ (by simp [encChan])
  refine good_bnd (good_d8 a) ?_
  refine good_bnd (good_d8 b) ?_
  refine good_bnd (good_d8 c) ?_
  refine good_bnd (good_d8 d) ?_
  refine good_bnd (good_d8 e) ?_
  refine good_bnd (good_d16 h.2.2.2.2.2) ?_
  exact good_ret _
theorem good_part (q : PartA) : Good s (dPart s) q (encPart q) := by
  obtain ⟨ss, ev, pp, x, y, z⟩ := q
  refine Good.cast (l := [(ss.length : Int)] ++ (ss.flatMap encSem ++ ([ev] ++ ([(pp.length : Int)] ++ (pp.flatMap (fun z => [z]) ++ ([x] ++ ([y] ++ ([z] ++ [])))))))) ?_ (by simp [encPart])
  refine good_bnd (good_d8 _) ?_
  rw [Int.toNat_natCast]
  refine good_bnd (good_rep ss fun w _ => good_sem w) ?_
  refine good_bnd (good_d8 ev) ?_
  refine good_bnd (good_d8 _) ?_
  rw [Int.toNat_natCast]
  refine good_bnd (good_rep pp fun w _ => good_d8 w) ?_
  refine good_bnd (good_d8 x) ?_
  refine good_bnd (good_d8 y) ?_
  refine good_bnd (good_d8 z) ?_
  exact good_ret _
/-- The encoding, but for its first four bytes. -/
def encRest (p : PlanA) : List Int := two p.1 ++ [(p.2.1.length : Int), (p.2.2.1.length : Int), (p.2.2.2.1.length : Int), (p.2.2.2.2.length : Int)] ++ p.2.1.flatMap encCore ++ p.2.2.1.flatMap encPart ++ p.2.2.2.1.flatMap encChan ++ p.2.2.2.2.flatMap encPair
theorem enc_rest (p : PlanA) : enc p = magicL ++ encRest p := by simp [enc, encHead, encRest]
theorem good_plan {p : PlanA} (hw : WfPlan p) (hf : Fits p) : Good s (dPlan s) p (encRest p) := by
  obtain ⟨fr, cs, ps, hs, rs⟩ := p
  obtain ⟨w1, w2, w3, w4, w5⟩ := hw
  obtain ⟨f1, f2, f3, f4, f5, f6⟩ := hf
  refine Good.cast (l := two fr ++ ([(cs.length : Int)] ++ ([(ps.length : Int)] ++ ([(hs.length : Int)] ++ ([(rs.length : Int)] ++ (cs.flatMap encCore ++ (ps.flatMap encPart ++ (hs.flatMap encChan ++ (rs.flatMap encPair ++ []))))))))) ?_ (by simp [encRest])
  refine good_bnd (good_d16 w1) ?_
  refine good_bnd (good_d8 _) ?_
  refine good_bnd (good_d8 _) ?_
  refine good_bnd (good_d8 _) ?_
  refine good_bnd (good_d8 _) ?_
  rw [Int.toNat_natCast, Int.toNat_natCast]
  refine good_bnd (good_rep cs fun w hw => good_core (f5 w hw) (w2 w hw)) ?_
  refine good_bnd (good_rep ps fun w _ => good_part w) ?_
  rw [Int.toNat_natCast, Int.toNat_natCast]
  refine good_bnd (good_rep hs fun w hw => good_chan (w4 w hw)) ?_
  refine good_bnd (good_rep rs fun w _ => good_pair w) ?_
  exact good_ret _
end
theorem bytesL_size (l : List Int) : (bytesL l).size = l.length := by
  show (bytesL l).data.size = _
  simp [bytesL]
theorem byteI_bytesL {l : List Int} (h : ∀ z ∈ l, byte z) {i : Nat} (hi : i < l.length) : byteI (bytesL l) i = l.getD i 0 := by
  unfold byteI bytesL
  rw [List.getD_eq_getElem?_getD, List.getD_eq_getElem?_getD]
  simp only [List.getElem?_map, List.getElem?_eq_getElem hi, Option.map_some, Option.getD_some]
  obtain ⟨h0, h1⟩ := h _ (List.getElem_mem hi)
  rw [UInt8.toNat_ofNat']
  omega
/-- Bytes that begin with an encoding: up to where they are read. -/
theorem dec_enc {p : PlanA} (hw : WfPlan p) (hf : Fits p) (hb : ∀ z ∈ enc p, byte z) {t : List Int} (ht : ∀ z ∈ t, byte z) :
    4 ≤ (bytesL (enc p ++ t)).size ∧ magicB (bytesL (enc p ++ t)) = true ∧ dPlan (bytesL (enc p ++ t)) (4, false) = (p, ((enc p).length, false)) := by
  have hall : ∀ z ∈ enc p ++ t, byte z := fun z hz => (List.mem_append.1 hz).elim (hb z) (ht z)
  have hlen : (enc p).length = 4 + (encRest p).length := by rw [enc_rest, List.length_append]; rfl
  have hH : Has (bytesL (enc p ++ t)) 0 (magicL ++ encRest p) := by
    refine ⟨by rw [bytesL_size, ← enc_rest, List.length_append]; omega, fun i hi => ?_⟩
    rw [← enc_rest] at hi ⊢
    rw [Nat.zero_add, byteI_bytesL hall (by rw [List.length_append]; omega), List.getD_eq_getElem?_getD, List.getElem?_append_left hi, List.getD_eq_getElem?_getD]
  have hm := hH.left
  refine ⟨by rw [bytesL_size, List.length_append]; omega, ?_, ?_⟩
  · unfold magicB
    have h := hm.2
    exact decide_eq_true ⟨h 0 (by decide), h 1 (by decide), h 2 (by decide), h 3 (by decide)⟩
  · have := good_plan hw hf 4 hH.right
    rw [this, hlen]
/-- What was encoded is decoded again. -/
theorem dec_back {p : PlanA} (hw : WfPlan p) (hf : Fits p) (hb : ∀ z ∈ enc p, byte z) : decE (bytesL (enc p)) = 0 ∧ decP (bytesL (enc p)) = p := by
  obtain ⟨h1, h2, h3⟩ := dec_enc hw hf hb (t := []) (fun _ h => by cases h)
  rw [List.append_nil] at h1 h2 h3
  have hE : decE (bytesL (enc p)) = 0 := by
    unfold decE
    rw [if_neg (by omega), if_neg (by rw [h2]; simp), if_neg (by rw [h3]; simp), if_neg (by rw [h3, bytesL_size]; simp)]
  exact ⟨hE, by unfold decP; rw [if_pos hE, h3]⟩
/-- With something behind it, where that begins is told. -/
theorem dec_tail {p : PlanA} (hw : WfPlan p) (hf : Fits p) (hb : ∀ z ∈ enc p, byte z) {t : List Int} (ht : ∀ z ∈ t, byte z) (hn : t ≠ []) : decE (bytesL (enc p ++ t)) = 21 ∧ decA (bytesL (enc p ++ t)) = (enc p).length := by
  obtain ⟨h1, h2, h3⟩ := dec_enc hw hf hb ht
  have hl : (enc p).length < (bytesL (enc p ++ t)).size := by
    rw [bytesL_size, List.length_append]
    have := List.length_pos_iff.2 hn
    omega
  constructor
  · unfold decE
    rw [if_neg (by omega), if_neg (by rw [h2]; simp), if_neg (by rw [h3]; simp), if_pos (by rw [h3]; exact hl)]
  · unfold decA
    rw [if_neg (by omega), if_neg (by rw [h2]; simp), if_neg (by rw [h3]; simp), if_pos (by rw [h3]; exact hl), h3]
end Go.Proofs.YtkgkjkghdllkhaaDoor
