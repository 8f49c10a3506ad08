/-
  Rings, pure: messages as words; what a step makes of a sender, of a receiver and of the words.
-/
namespace Go.Proofs.YtnmobalgghggnaaDoor

/-- Whether a word exists. -/
def inM (n : Nat) (a : Int) : Bool := decide (0 ≤ a ∧ a < (n : Int))
theorem inM_yes {n : Nat} {a : Int} (h : inM n a = true) : 0 ≤ a ∧ a < n := by unfold inM at h; exact of_decide_eq_true h
theorem inM_no {n : Nat} {a : Int} (h : inM n a = false) : ¬ (0 ≤ a ∧ a < n) := by unfold inM at h; exact of_decide_eq_false h
theorem inM_of {n : Nat} {a : Int} (h : 0 ≤ a ∧ a < n) : inM n a = true := by unfold inM; exact decide_eq_true h
theorem inM_ne {n : Nat} {a : Int} (h : ¬ (0 ≤ a ∧ a < n)) : inM n a = false := by unfold inM; exact decide_eq_false h

/-- Add 1 to a number of 32 bits. -/
def inc (x : Int) : Int := (x + 1) % 4294967296
/-- One of a row turned to another one. -/
def upd {α : Type} (l : Nat → α) (i : Nat) (x : α) : Nat → α := fun j => if j = i then x else l j
theorem upd_same {α : Type} {l : Nat → α} {i : Nat} {x : α} : upd l i x i = x := by simp [upd]
theorem upd_other {α : Type} {l : Nat → α} {i j : Nat} {x : α} (h : j ≠ i) : upd l i x j = l j := by simp [upd, h]
theorem upd_self {α : Type} (f : Nat → α) (i : Nat) : upd f i (f i) = f := by
  funext j; unfold upd; split
  · subst j; rfl
  · rfl

/-- A byte of a message, 0 where there is none. -/
def byteOf (m : ByteArray) (i : Nat) : Int := (((m.data.toList.getD i 0).toNat : Nat) : Int)
theorem byteOf_rng (m : ByteArray) (i : Nat) : 0 ≤ byteOf m i ∧ byteOf m i ≤ 255 := by
  unfold byteOf
  have := (m.data.toList.getD i 0).toNat_lt
  omega
theorem byteOf_out {m : ByteArray} {i : Nat} (h : m.size ≤ i) : byteOf m i = 0 := by
  unfold byteOf
  rw [List.getD_eq_getElem?_getD, List.getElem?_eq_none (by rw [Array.length_toList]; exact h)]
  rfl
/-- Four bytes of a message as a number, the first one the most significant. -/
def wordOf (m : ByteArray) (q : Nat) : Int := byteOf m (4 * q) * 16777216 + byteOf m (4 * q + 1) * 65536 + byteOf m (4 * q + 2) * 256 + byteOf m (4 * q + 3)
theorem wordOf_rng (m : ByteArray) (q : Nat) : 0 ≤ wordOf m q ∧ wordOf m q < 4294967296 := by
  unfold wordOf
  have h0 := byteOf_rng m (4 * q)
  have h1 := byteOf_rng m (4 * q + 1)
  have h2 := byteOf_rng m (4 * q + 2)
  have h3 := byteOf_rng m (4 * q + 3)
  omega
/-- How many words so many bytes need. -/
def need (n : Nat) : Nat := (n + 3) / 4
/-- A message as words: its length, then its bytes. -/
def letter (m : ByteArray) (j : Nat) : Int := match j with
  | 0 => m.size
  | q + 1 => wordOf m q
/-- The byte number i of words. -/
def byteAt (ws : Nat → Int) (i : Nat) : Int := ws (1 + i / 4) / (2 ^ (24 - 8 * (i % 4)) : Nat) % 256
/-- What words say: so many bytes. -/
def textOf (ws : Nat → Int) : ByteArray := ⟨((List.range (ws 0).toNat).map fun i => UInt8.ofNat (byteAt ws i).toNat).toArray⟩
theorem textOf_size (ws : Nat → Int) : (textOf ws).size = (ws 0).toNat := by
  unfold textOf ByteArray.size; simp
/-- A message's words say it. -/
theorem byteAt_letter (m : ByteArray) (ws : Nat → Int) (i : Nat) (h : ws (1 + i / 4) = wordOf m (i / 4)) : byteAt ws i = byteOf m i := by
  unfold byteAt
  rw [h]
  unfold wordOf
  have h0 := byteOf_rng m (4 * (i / 4))
  have h1 := byteOf_rng m (4 * (i / 4) + 1)
  have h2 := byteOf_rng m (4 * (i / 4) + 2)
  have h3 := byteOf_rng m (4 * (i / 4) + 3)
  have hr : i % 4 = 0 ∨ i % 4 = 1 ∨ i % 4 = 2 ∨ i % 4 = 3 := by omega
  have e : i = 4 * (i / 4) + i % 4 := by omega
  have hb : byteOf m i = byteOf m (4 * (i / 4) + i % 4) := congrArg (byteOf m) e
  rcases hr with h | h | h | h
  · rw [h] at hb
    rw [hb, h, show ((2 ^ (24 - 8 * 0) : Nat) : Int) = 16777216 from rfl]
    simp only [Nat.add_zero]
    omega
  · rw [h] at hb
    rw [hb, h, show ((2 ^ (24 - 8 * 1) : Nat) : Int) = 65536 from rfl]
    omega
  · rw [h] at hb
    rw [hb, h, show ((2 ^ (24 - 8 * 2) : Nat) : Int) = 256 from rfl]
    omega
  · rw [h] at hb
    rw [hb, h, show ((2 ^ (24 - 8 * 3) : Nat) : Int) = 1 from rfl]
    omega
theorem byteAt_rng (ws : Nat → Int) (i : Nat) : 0 ≤ byteAt ws i ∧ byteAt ws i < 256 := by
  unfold byteAt
  omega
theorem textOf_letter {m : ByteArray} {ws : Nat → Int} (h0 : ws 0 = m.size) (h : ∀ q, q < need m.size → ws (1 + q) = wordOf m q) : textOf ws = m := by
  have hs : ((List.range (ws 0).toNat).map fun i => UInt8.ofNat (byteAt ws i).toNat) = m.data.toList := by
    apply List.ext_getElem
    · rw [List.length_map, List.length_range, h0, Array.length_toList]; rfl
    · intro i h1 h2
      have hi : i < m.size := by rw [Array.length_toList] at h2; exact h2
      rw [List.getElem_map, List.getElem_range]
      rw [byteAt_letter m ws i (h _ (by unfold need; omega))]
      unfold byteOf
      rw [List.getD_eq_getElem?_getD, List.getElem?_eq_getElem h2, Option.getD_some]
      simp
  apply ByteArray.ext
  exact Array.toList_inj.1 hs
theorem textOf_pos {ws : Nat → Int} (h : 1 ≤ ws 0) : (textOf ws).size ≠ 0 := by rw [textOf_size]; omega

/-- A sender: where its ring stands, how many places, how great they are, its messages; its next step (0 to 4, 5 none), the other end's index, its own, how many words of the message are done; what became of the messages. -/
structure Sd where
  at' : Int
  pl : Nat
  sz : Nat
  L : List ByteArray
  ph : Nat
  oth : Int
  own : Int
  pa : Nat
  sent : List Bool
/-- A receiver; ld: what it has loaded. -/
structure Rv where
  at' : Int
  pl : Nat
  sz : Nat
  times : Nat
  ph : Nat
  oth : Int
  own : Int
  pa : Nat
  ld : Nat → Int
  got : List ByteArray
/-- How many words a place has. -/
def per (sz : Nat) : Nat := 1 + need sz
/-- The first word of a place. -/
def base (at' : Int) (pl sz : Nat) (own : Int) : Int := at' + 2 + own % pl * per sz
/-- How many lie between two indices. -/
def used (h t : Int) : Int := (t - h) % 4294967296
/-- The current message. -/
def Sd.cur (s : Sd) : ByteArray := s.L.getD s.sent.length ByteArray.empty
/-- The word that the next step uses. -/
def Sd.wh (s : Sd) : Int :=
  match s.ph with
  | 0 => s.at'
  | 1 => s.at' + 1
  | 2 => base s.at' s.pl s.sz s.own
  | 3 => base s.at' s.pl s.sz s.own + 1 + s.pa
  | _ => s.at' + 1
def Rv.wh (r : Rv) : Int :=
  match r.ph with
  | 0 => r.at' + 1
  | 1 => r.at'
  | 2 => base r.at' r.pl r.sz r.own
  | 3 => base r.at' r.pl r.sz r.own + 1 + r.pa
  | _ => r.at'
/-- What comes behind so many messages. -/
def Sd.close (s : Sd) (b : Bool) : Sd := { s with sent := s.sent ++ [b], ph := if s.sent.length + 1 = s.L.length then 5 else 0 }
def Rv.close (r : Rv) (m : ByteArray) : Rv := { r with got := r.got ++ [m], ph := if r.got.length + 1 = r.times then 5 else 0 }
/-- A step that finds its word, x. -/
def Sd.go (s : Sd) (x : Int) : Sd :=
  match s.ph with
  | 0 => { s with oth := x, ph := 1 }
  | 1 => if (s.pl : Int) ≤ used s.oth x then ({ s with own := x }).close false else { s with own := x, ph := 2 }
  | 2 => { s with ph := 3 }
  | 3 => if s.pa + 1 < need s.cur.size then { s with pa := s.pa + 1 } else { s with pa := 0, ph := 4 }
  | 4 => s.close true
  | _ => s
def Rv.go (r : Rv) (x : Int) : Rv :=
  match r.ph with
  | 0 => { r with oth := x, ph := 1 }
  | 1 => if x = r.oth then ({ r with own := x }).close ByteArray.empty else { r with own := x, ph := 2 }
  | 2 => { r with ld := upd r.ld 0 (min (max x 1) r.sz), ph := 3 }
  | 3 => if r.pa + 1 < need (r.ld 0).toNat then { r with ld := upd r.ld (1 + r.pa) x, pa := r.pa + 1 } else { r with ld := upd r.ld (1 + r.pa) x, pa := 0, ph := 4 }
  | 4 => r.close (textOf r.ld)
  | _ => r
/-- What it leaves of the word. -/
def Sd.puts (s : Sd) (x : Int) : Int :=
  match s.ph with
  | 2 => s.cur.size
  | 3 => wordOf s.cur s.pa
  | 4 => inc s.own
  | _ => x
def Rv.puts (r : Rv) (x : Int) : Int :=
  match r.ph with
  | 4 => inc r.own
  | _ => x
/-- A sender behind its next step; n: how many words there are. -/
def Sd.step (n : Nat) (f : Nat → Int) (s : Sd) : Sd := if 5 ≤ s.ph then s else if inM n s.wh then s.go (f s.wh.toNat) else { s with ph := 5 }
def Rv.step (n : Nat) (f : Nat → Int) (r : Rv) : Rv := if 5 ≤ r.ph then r else if inM n r.wh then r.go (f r.wh.toNat) else { r with ph := 5 }
/-- The words behind it. -/
def Sd.word (n : Nat) (f : Nat → Int) (s : Sd) : Nat → Int := if 5 ≤ s.ph then f else if inM n s.wh then upd f s.wh.toNat (s.puts (f s.wh.toNat)) else f
def Rv.word (n : Nat) (f : Nat → Int) (r : Rv) : Nat → Int := if 5 ≤ r.ph then f else if inM n r.wh then upd f r.wh.toNat (r.puts (f r.wh.toNat)) else f
/-- New ones. -/
def sd0 (at' : Int) (pl sz : Nat) (L : List ByteArray) : Sd := ⟨at', pl, sz, L, if L.length = 0 then 5 else 0, 0, 0, 0, []⟩
def rv0 (at' : Int) (pl sz : Nat) (times : Nat) : Rv := ⟨at', pl, sz, times, if 0 = times then 5 else 0, 0, 0, 0, fun _ => 0, []⟩

/-- Whether there may be so many places. -/
def CapN (pl : Nat) : Prop := ∃ k, k ≤ 15 ∧ pl = 2 ^ k
theorem need_le {n : Nat} (h : n ≤ 32) : need n ≤ 8 := by unfold need; omega
theorem need_pos {n : Nat} (h : 1 ≤ n) : 1 ≤ need n := by unfold need; omega
theorem need_mono {n m : Nat} (h : n ≤ m) : need n ≤ need m := by unfold need; omega
/-- What a sender's numbers keep. -/
structure Sd.Wf (s : Sd) : Prop where
  ar : -1000 ≤ s.at' ∧ s.at' ≤ 1000
  pl : CapN s.pl
  sz : 1 ≤ s.sz ∧ s.sz ≤ 32
  ms : ∀ m ∈ s.L, 1 ≤ m.size ∧ m.size ≤ s.sz
  few : s.L.length ≤ 1000
  k : s.sent.length ≤ s.L.length
  ph : s.ph ≤ 5
  more : s.ph < 5 → s.sent.length < s.L.length
  own : 0 ≤ s.own ∧ s.own < 4294967296
  oth : 0 ≤ s.oth ∧ s.oth < 4294967296
  pa : s.ph < 5 → (s.ph ≠ 3 → s.pa = 0) ∧ (s.ph = 3 → s.pa < need s.cur.size)
structure Rv.Wf (r : Rv) : Prop where
  ar : -1000 ≤ r.at' ∧ r.at' ≤ 1000
  pl : CapN r.pl
  sz : 1 ≤ r.sz ∧ r.sz ≤ 32
  few : r.times ≤ 1000
  k : r.got.length ≤ r.times
  ph : r.ph ≤ 5
  more : r.ph < 5 → r.got.length < r.times
  own : 0 ≤ r.own ∧ r.own < 4294967296
  oth : 0 ≤ r.oth ∧ r.oth < 4294967296
  ld : ∀ i, 0 ≤ r.ld i ∧ r.ld i < 4294967296
  ld0 : 3 ≤ r.ph → r.ph < 5 → 1 ≤ r.ld 0 ∧ r.ld 0 ≤ r.sz
  pa : r.ph < 5 → (r.ph ≠ 3 → r.pa = 0) ∧ (r.ph = 3 → r.pa < need (r.ld 0).toNat)
  txt : ∀ m ∈ r.got, m.size ≤ 32
theorem CapN.rng {pl : Nat} (h : CapN pl) : 1 ≤ pl ∧ pl ≤ 32768 := by
  obtain ⟨k, hk, rfl⟩ := h
  have h1 : 2 ^ k ≤ 2 ^ 15 := Nat.pow_le_pow_right (by omega) hk
  have h2 : 1 ≤ 2 ^ k := Nat.one_le_two_pow
  exact ⟨h2, h1⟩
theorem cur_mem {s : Sd} (h : s.sent.length < s.L.length) : s.cur ∈ s.L := by
  unfold Sd.cur
  rw [List.getD_eq_getElem?_getD, List.getElem?_eq_getElem h, Option.getD_some]
  exact List.getElem_mem h
theorem Sd.Wf.cur {s : Sd} (h : s.Wf) (hp : s.ph < 5) : 1 ≤ s.cur.size ∧ s.cur.size ≤ s.sz := h.ms _ (cur_mem (h.more hp))
theorem inc_rng (x : Int) : 0 ≤ inc x ∧ inc x < 4294967296 := by unfold inc; omega
/-- Numbers of 32 bits. -/
def U32 (n : Nat) (f : Nat → Int) : Prop := ∀ i, i < n → 0 ≤ f i ∧ f i < 4294967296
theorem U32.upd {n : Nat} {f : Nat → Int} (h : U32 n f) (i : Nat) {x : Int} (hx : 0 ≤ x ∧ x < 4294967296) : U32 n (upd f i x) := fun j hj => by
  by_cases e : j = i
  · subst e; rw [upd_same]; exact hx
  · rw [upd_other e]; exact h j hj
theorem Sd.Wf.close {s : Sd} (h : s.Wf) (hp : s.ph < 5) (hpa : s.pa = 0) (b : Bool) : (s.close b).Wf := by
  have hm := h.more hp
  have e : (s.close b).ph = if s.sent.length + 1 = s.L.length then 5 else 0 := rfl
  have el : (s.close b).sent.length = s.sent.length + 1 := by unfold Sd.close; simp
  have eL : (s.close b).L = s.L := rfl
  refine ⟨h.ar, h.pl, h.sz, h.ms, h.few, ?_, ?_, fun h5 => ?_, h.own, h.oth, fun h5 => ⟨fun _ => hpa, fun h3 => ?_⟩⟩
  · rw [el, eL]; omega
  · rw [e]; split <;> omega
  · rw [e] at h5; rw [el, eL]; split at h5 <;> omega
  · rw [e] at h3; split at h3 <;> omega
theorem Rv.Wf.close {r : Rv} (h : r.Wf) (hp : r.ph < 5) (hpa : r.pa = 0) {m : ByteArray} (hm : m.size ≤ 32) : (r.close m).Wf := by
  have hmo := h.more hp
  have e : (r.close m).ph = if r.got.length + 1 = r.times then 5 else 0 := rfl
  have el : (r.close m).got.length = r.got.length + 1 := by unfold Rv.close; simp
  have eL : (r.close m).times = r.times := rfl
  refine ⟨h.ar, h.pl, h.sz, h.few, ?_, ?_, fun h5 => ?_, h.own, h.oth, h.ld, fun h3 h5 => ?_, fun h5 => ⟨fun _ => hpa, fun h3 => ?_⟩, fun x hx => ?_⟩
  · rw [el, eL]; omega
  · rw [e]; split <;> omega
  · rw [e] at h5; rw [el, eL]; split at h5 <;> omega
  · exfalso; revert h3 h5; rw [e]; split <;> omega
  · rw [e] at h3; split at h3 <;> omega
  · have : x ∈ r.got ++ [m] := hx
    rcases List.mem_append.1 this with h1 | h1
    · exact h.txt x h1
    · rw [List.mem_singleton.1 h1]; exact hm
theorem Sd.Wf.lost {s : Sd} (h : s.Wf) : ({ s with ph := 5 } : Sd).Wf :=
  ⟨h.ar, h.pl, h.sz, h.ms, h.few, h.k, Nat.le_refl _, fun h5 => absurd h5 (by show ¬ 5 < 5; omega), h.own, h.oth, fun h5 => absurd h5 (by show ¬ 5 < 5; omega)⟩
theorem Rv.Wf.lost {r : Rv} (h : r.Wf) : ({ r with ph := 5 } : Rv).Wf :=
  ⟨h.ar, h.pl, h.sz, h.few, h.k, Nat.le_refl _, fun h5 => absurd h5 (by show ¬ 5 < 5; omega), h.own, h.oth, h.ld, fun _ h5 => absurd h5 (by show ¬ 5 < 5; omega), fun h5 => absurd h5 (by show ¬ 5 < 5; omega), h.txt⟩
theorem Sd.go0 {s : Sd} {x : Int} (h : s.ph = 0) : s.go x = { s with oth := x, ph := 1 } := by cases s; cases h; rfl
theorem Sd.go1 {s : Sd} {x : Int} (h : s.ph = 1) : s.go x = if (s.pl : Int) ≤ used s.oth x then ({ s with own := x } : Sd).close false else { s with own := x, ph := 2 } := by cases s; cases h; rfl
theorem Sd.go2 {s : Sd} {x : Int} (h : s.ph = 2) : s.go x = { s with ph := 3 } := by cases s; cases h; rfl
theorem Sd.go3 {s : Sd} {x : Int} (h : s.ph = 3) : s.go x = if s.pa + 1 < need s.cur.size then { s with pa := s.pa + 1 } else { s with pa := 0, ph := 4 } := by cases s; cases h; rfl
theorem Sd.go4 {s : Sd} {x : Int} (h : s.ph = 4) : s.go x = s.close true := by cases s; cases h; rfl
theorem Rv.go0 {r : Rv} {x : Int} (h : r.ph = 0) : r.go x = { r with oth := x, ph := 1 } := by cases r; cases h; rfl
theorem Rv.go1 {r : Rv} {x : Int} (h : r.ph = 1) : r.go x = if x = r.oth then ({ r with own := x } : Rv).close ByteArray.empty else { r with own := x, ph := 2 } := by cases r; cases h; rfl
theorem Rv.go2 {r : Rv} {x : Int} (h : r.ph = 2) : r.go x = { r with ld := upd r.ld 0 (min (max x 1) r.sz), ph := 3 } := by cases r; cases h; rfl
theorem Rv.go3 {r : Rv} {x : Int} (h : r.ph = 3) : r.go x = if r.pa + 1 < need (r.ld 0).toNat then { r with ld := upd r.ld (1 + r.pa) x, pa := r.pa + 1 } else { r with ld := upd r.ld (1 + r.pa) x, pa := 0, ph := 4 } := by cases r; cases h; rfl
theorem Rv.go4 {r : Rv} {x : Int} (h : r.ph = 4) : r.go x = r.close (textOf r.ld) := by cases r; cases h; rfl
theorem Sd.Wf.go {s : Sd} (h : s.Wf) (hp : s.ph < 5) {x : Int} (hx : 0 ≤ x ∧ x < 4294967296) : (s.go x).Wf := by
  have hpa := h.pa hp
  have hc := h.cur hp
  have hm := h.more hp
  have h5 : s.ph = 0 ∨ s.ph = 1 ∨ s.ph = 2 ∨ s.ph = 3 ∨ s.ph = 4 := by omega
  rcases h5 with e | e | e | e | e
  · rw [Sd.go0 e]
    have h0 := hpa.1 (by omega)
    exact ⟨h.ar, h.pl, h.sz, h.ms, h.few, h.k, by show 1 ≤ 5; omega, fun _ => hm, h.own, hx, fun _ => ⟨fun _ => h0, fun h3 => absurd h3 (by show ¬ 1 = 3; omega)⟩⟩
  · rw [Sd.go1 e]
    have h0 := hpa.1 (by omega)
    have h1 : ({ s with own := x } : Sd).Wf := ⟨h.ar, h.pl, h.sz, h.ms, h.few, h.k, h.ph, h.more, hx, h.oth, h.pa⟩
    split
    · exact h1.close hp h0 false
    · exact ⟨h.ar, h.pl, h.sz, h.ms, h.few, h.k, by show 2 ≤ 5; omega, fun _ => hm, hx, h.oth, fun _ => ⟨fun _ => h0, fun h3 => absurd h3 (by show ¬ 2 = 3; omega)⟩⟩
  · rw [Sd.go2 e]
    have h0 := hpa.1 (by omega)
    exact ⟨h.ar, h.pl, h.sz, h.ms, h.few, h.k, by show 3 ≤ 5; omega, fun _ => hm, h.own, h.oth, fun _ => ⟨fun _ => h0, fun _ => by show s.pa < need s.cur.size; rw [h0]; exact need_pos hc.1⟩⟩
  · rw [Sd.go3 e]
    split
    · rename_i hlt
      exact ⟨h.ar, h.pl, h.sz, h.ms, h.few, h.k, h.ph, fun _ => hm, h.own, h.oth, fun _ => ⟨fun h3 => absurd e h3, fun _ => hlt⟩⟩
    · exact ⟨h.ar, h.pl, h.sz, h.ms, h.few, h.k, by show 4 ≤ 5; omega, fun _ => hm, h.own, h.oth, fun _ => ⟨fun _ => rfl, fun h3 => absurd h3 (by show ¬ 4 = 3; omega)⟩⟩
  · rw [Sd.go4 e]
    exact h.close hp (hpa.1 (by omega)) true
theorem upd_rng {f : Nat → Int} (h : ∀ i, 0 ≤ f i ∧ f i < 4294967296) (i : Nat) {x : Int} (hx : 0 ≤ x ∧ x < 4294967296) : ∀ j, 0 ≤ upd f i x j ∧ upd f i x j < 4294967296 := fun j => by
  by_cases e : j = i
  · subst e; rw [upd_same]; exact hx
  · rw [upd_other e]; exact h j
theorem textOf_le {r : Rv} (h : r.Wf) (hp : r.ph = 4) : (textOf r.ld).size ≤ 32 := by
  rw [textOf_size]
  have := h.ld0 (by omega) (by omega)
  have := h.sz
  omega
theorem Rv.Wf.go {r : Rv} (h : r.Wf) (hp : r.ph < 5) {x : Int} (hx : 0 ≤ x ∧ x < 4294967296) : (r.go x).Wf := by
  have hpa := h.pa hp
  have hm := h.more hp
  have hsz := h.sz
  have h5 : r.ph = 0 ∨ r.ph = 1 ∨ r.ph = 2 ∨ r.ph = 3 ∨ r.ph = 4 := by omega
  rcases h5 with e | e | e | e | e
  · rw [Rv.go0 e]
    have h0 := hpa.1 (by omega)
    exact ⟨h.ar, h.pl, h.sz, h.few, h.k, by show 1 ≤ 5; omega, fun _ => hm, h.own, hx, h.ld, fun h3 => absurd h3 (by show ¬ 3 ≤ 1; omega), fun _ => ⟨fun _ => h0, fun h3 => absurd h3 (by show ¬ 1 = 3; omega)⟩, h.txt⟩
  · rw [Rv.go1 e]
    have h0 := hpa.1 (by omega)
    have h1 : ({ r with own := x } : Rv).Wf := ⟨h.ar, h.pl, h.sz, h.few, h.k, h.ph, h.more, hx, h.oth, h.ld, h.ld0, h.pa, h.txt⟩
    split
    · exact h1.close hp h0 (by decide)
    · exact ⟨h.ar, h.pl, h.sz, h.few, h.k, by show 2 ≤ 5; omega, fun _ => hm, hx, h.oth, h.ld, fun h3 => absurd h3 (by show ¬ 3 ≤ 2; omega), fun _ => ⟨fun _ => h0, fun h3 => absurd h3 (by show ¬ 2 = 3; omega)⟩, h.txt⟩
  · rw [Rv.go2 e]
    have h0 := hpa.1 (by omega)
    have hv : 1 ≤ min (max x 1) (r.sz : Int) ∧ min (max x 1) (r.sz : Int) ≤ r.sz := by omega
    refine ⟨h.ar, h.pl, h.sz, h.few, h.k, by show 3 ≤ 5; omega, fun _ => hm, h.own, h.oth, upd_rng h.ld 0 (by omega), fun _ _ => ?_, fun _ => ⟨fun h3 => absurd rfl h3, fun _ => ?_⟩, h.txt⟩
    · show 1 ≤ upd r.ld 0 (min (max x 1) (r.sz : Int)) 0 ∧ upd r.ld 0 (min (max x 1) (r.sz : Int)) 0 ≤ _
      rw [upd_same]; exact hv
    · show r.pa < need (upd r.ld 0 (min (max x 1) (r.sz : Int)) 0).toNat
      rw [upd_same, h0]
      exact need_pos (by have := hv.1; omega)
  · rw [Rv.go3 e]
    have hl0 := h.ld0 (by omega) (by omega)
    have hu : upd r.ld (1 + r.pa) x 0 = r.ld 0 := upd_other (by omega)
    split
    · rename_i hlt
      refine ⟨h.ar, h.pl, h.sz, h.few, h.k, h.ph, fun _ => hm, h.own, h.oth, upd_rng h.ld _ hx, fun _ _ => ?_, fun _ => ⟨fun h3 => absurd e h3, fun _ => ?_⟩, h.txt⟩
      · show 1 ≤ upd r.ld (1 + r.pa) x 0 ∧ upd r.ld (1 + r.pa) x 0 ≤ _
        rw [hu]; exact hl0
      · show r.pa + 1 < need (upd r.ld (1 + r.pa) x 0).toNat
        rw [hu]; exact hlt
    · refine ⟨h.ar, h.pl, h.sz, h.few, h.k, by show 4 ≤ 5; omega, fun _ => hm, h.own, h.oth, upd_rng h.ld _ hx, fun _ _ => ?_, fun _ => ⟨fun _ => rfl, fun h3 => absurd h3 (by show ¬ 4 = 3; omega)⟩, h.txt⟩
      show 1 ≤ upd r.ld (1 + r.pa) x 0 ∧ upd r.ld (1 + r.pa) x 0 ≤ _
      rw [hu]; exact hl0
  · rw [Rv.go4 e]
    exact h.close hp (hpa.1 (by omega)) (textOf_le h e)
theorem Sd.Wf.step {s : Sd} (h : s.Wf) {n : Nat} {f : Nat → Int} (hf : U32 n f) : (s.step n f).Wf := by
  unfold Sd.step
  split
  · exact h
  · split
    · rename_i h1 h2
      have := inM_yes h2
      exact h.go (by omega) (hf _ (by omega))
    · exact h.lost
theorem Rv.Wf.step {r : Rv} (h : r.Wf) {n : Nat} {f : Nat → Int} (hf : U32 n f) : (r.step n f).Wf := by
  unfold Rv.step
  split
  · exact h
  · split
    · rename_i h1 h2
      have := inM_yes h2
      exact h.go (by omega) (hf _ (by omega))
    · exact h.lost
theorem Sd.puts_rng {s : Sd} (h : s.Wf) (hp : s.ph < 5) {x : Int} (hx : 0 ≤ x ∧ x < 4294967296) : 0 ≤ s.puts x ∧ s.puts x < 4294967296 := by
  have hc := h.cur hp
  have hsz := h.sz
  unfold Sd.puts
  split
  · omega
  · exact wordOf_rng _ _
  · exact inc_rng _
  · exact hx
theorem Rv.puts_rng {r : Rv} {x : Int} (hx : 0 ≤ x ∧ x < 4294967296) : 0 ≤ r.puts x ∧ r.puts x < 4294967296 := by
  unfold Rv.puts
  split
  · exact inc_rng _
  · exact hx
theorem U32.sword {n : Nat} {f : Nat → Int} (hf : U32 n f) {s : Sd} (h : s.Wf) : U32 n (s.word n f) := by
  unfold Sd.word
  split
  · exact hf
  · split
    · rename_i h1 h2
      have := inM_yes h2
      exact hf.upd _ (Sd.puts_rng h (by omega) (hf _ (by omega)))
    · exact hf
theorem U32.rword {n : Nat} {f : Nat → Int} (hf : U32 n f) {r : Rv} : U32 n (r.word n f) := by
  unfold Rv.word
  split
  · exact hf
  · split
    · rename_i h1 h2
      have := inM_yes h2
      exact hf.upd _ (Rv.puts_rng (hf _ (by omega)))
    · exact hf
theorem sd0_wf {a : Int} {pl sz : Nat} {L : List ByteArray} (ha : -1000 ≤ a ∧ a ≤ 1000) (hp : CapN pl) (hs : 1 ≤ sz ∧ sz ≤ 32) (hm : ∀ m ∈ L, 1 ≤ m.size ∧ m.size ≤ sz) (hl : L.length ≤ 1000) : (sd0 a pl sz L).Wf := by
  have e : (sd0 a pl sz L).ph = if L.length = 0 then 5 else 0 := rfl
  refine ⟨ha, hp, hs, hm, hl, Nat.zero_le _, ?_, fun h5 => ?_, ⟨by show (0 : Int) ≤ 0; omega, by show (0 : Int) < 4294967296; omega⟩, ⟨by show (0 : Int) ≤ 0; omega, by show (0 : Int) < 4294967296; omega⟩, fun _ => ⟨fun _ => rfl, fun h3 => ?_⟩⟩
  · rw [e]; split <;> omega
  · rw [e] at h5
    show 0 < L.length
    split at h5 <;> omega
  · rw [e] at h3; split at h3 <;> omega
theorem rv0_wf {a : Int} {pl sz t : Nat} (ha : -1000 ≤ a ∧ a ≤ 1000) (hp : CapN pl) (hs : 1 ≤ sz ∧ sz ≤ 32) (ht : t ≤ 1000) : (rv0 a pl sz t).Wf := by
  have e : (rv0 a pl sz t).ph = if 0 = t then 5 else 0 := rfl
  refine ⟨ha, hp, hs, ht, Nat.zero_le _, ?_, fun h5 => ?_, ⟨by show (0 : Int) ≤ 0; omega, by show (0 : Int) < 4294967296; omega⟩, ⟨by show (0 : Int) ≤ 0; omega, by show (0 : Int) < 4294967296; omega⟩, fun _ => ⟨by show (0 : Int) ≤ 0; omega, by show (0 : Int) < 4294967296; omega⟩, fun h3 h5 => ?_, fun _ => ⟨fun _ => rfl, fun h3 => ?_⟩, fun m hm => by cases hm⟩
  · rw [e]; split <;> omega
  · rw [e] at h5
    show 0 < t
    split at h5 <;> omega
  · exfalso; revert h3 h5; rw [e]; split <;> omega
  · rw [e] at h3; split at h3 <;> omega
end Go.Proofs.YtnmobalgghggnaaDoor
