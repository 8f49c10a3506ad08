/-
  A ring's sender and receiver without words: what is under way; that the words always say just this.
-/
import Derived.Test.YtnmobalgghggnaaDoorLists
import Derived.Test.YtnmobalgghggnaaDoorRcvA
namespace Go.Proofs.YtnmobalgghggnaaDoor

/-- A sender and a receiver: its next step, what it has seen of the other end, how many words are done, what became of its messages or tries. -/
structure Ab where
  sp : Nat
  hd : Nat
  pa : Nat
  sent : List Bool
  rp : Nat
  tl : Nat
  pb : Nat
  got : List ByteArray
def Ab.out (L : List ByteArray) (a : Ab) : List ByteArray := outK L a.sent a.sent.length
def Ab.inn (a : Ab) : List ByteArray := inK a.got a.got.length
def Ab.T (L : List ByteArray) (a : Ab) : Nat := (a.out L).length
def Ab.H (a : Ab) : Nat := a.inn.length
def Ab.cur (L : List ByteArray) (a : Ab) : ByteArray := L.getD a.sent.length ByteArray.empty
def Ab.nxt (L : List ByteArray) (a : Ab) : ByteArray := (a.out L).getD a.H ByteArray.empty
def Ab.closeS (L : List ByteArray) (a : Ab) (b : Bool) : Ab := { a with sent := a.sent ++ [b], sp := if a.sent.length + 1 = L.length then 5 else 0 }
def Ab.closeR (a : Ab) (m : ByteArray) : Ab := { a with got := a.got ++ [m], rp := if a.got.length + 1 = 40 then 5 else 0 }
def Ab.stepS (L : List ByteArray) (pl : Nat) (a : Ab) : Ab :=
  match a.sp with
  | 0 => { a with hd := a.H, sp := 1 }
  | 1 => if pl ≤ a.T L - a.hd then a.closeS L false else { a with sp := 2 }
  | 2 => { a with sp := 3 }
  | 3 => if a.pa + 1 < need (a.cur L).size then { a with pa := a.pa + 1 } else { a with pa := 0, sp := 4 }
  | 4 => a.closeS L true
  | _ => a
def Ab.stepR (L : List ByteArray) (a : Ab) : Ab :=
  match a.rp with
  | 0 => { a with tl := a.T L, rp := 1 }
  | 1 => if a.H = a.tl then a.closeR ByteArray.empty else { a with rp := 2 }
  | 2 => { a with rp := 3 }
  | 3 => if a.pb + 1 < need (a.nxt L).size then { a with pb := a.pb + 1 } else { a with pb := 0, rp := 4 }
  | 4 => a.closeR (a.nxt L)
  | _ => a
theorem outK_old (L : List ByteArray) (s : List Bool) (b : Bool) : ∀ k, k ≤ s.length → outK L (s ++ [b]) k = outK L s k
  | 0, _ => rfl
  | k + 1, h => by
    simp only [outK]
    rw [outK_old L s b k (by omega)]
    have e : (s ++ [b]).getD k false = s.getD k false := by
      rw [List.getD_eq_getElem?_getD, List.getD_eq_getElem?_getD, List.getElem?_append_left (by omega)]
    rw [e]
theorem outK_new (L : List ByteArray) (s : List Bool) (b : Bool) : outK L (s ++ [b]) (s ++ [b]).length = if b = true then outK L s s.length ++ [L.getD s.length ByteArray.empty] else outK L s s.length := by
  rw [show (s ++ [b]).length = s.length + 1 by simp]
  simp only [outK]
  rw [outK_old L s b _ (Nat.le_refl _)]
  have e : (s ++ [b]).getD s.length false = b := by
    rw [List.getD_eq_getElem?_getD, List.getElem?_append_right (Nat.le_refl _)]
    simp
  rw [e]
theorem inK_old (g : List ByteArray) (m : ByteArray) : ∀ k, k ≤ g.length → inK (g ++ [m]) k = inK g k
  | 0, _ => rfl
  | k + 1, h => by
    simp only [inK]
    rw [inK_old g m k (by omega)]
    have e : (g ++ [m]).getD k ByteArray.empty = g.getD k ByteArray.empty := by
      rw [List.getD_eq_getElem?_getD, List.getD_eq_getElem?_getD, List.getElem?_append_left (by omega)]
    rw [e]
theorem inK_new (g : List ByteArray) (m : ByteArray) : inK (g ++ [m]) (g ++ [m]).length = if m.size = 0 then inK g g.length else inK g g.length ++ [m] := by
  rw [show (g ++ [m]).length = g.length + 1 by simp]
  simp only [inK]
  rw [inK_old g m _ (Nat.le_refl _)]
  have e : (g ++ [m]).getD g.length ByteArray.empty = m := by
    rw [List.getD_eq_getElem?_getD, List.getElem?_append_right (Nat.le_refl _)]
    simp
  rw [e]
theorem outK_mem (L : List ByteArray) (s : List Bool) : ∀ k, k ≤ L.length → ∀ m ∈ outK L s k, m ∈ L
  | 0, _, m, h => by cases h
  | k + 1, hk, m, h => by
    simp only [outK] at h
    split at h
    · rcases List.mem_append.1 h with h | h
      · exact outK_mem L s k (by omega) m h
      · rw [List.mem_singleton.1 h, List.getD_eq_getElem?_getD, List.getElem?_eq_getElem (by omega), Option.getD_some]
        exact List.getElem_mem _
    · exact outK_mem L s k (by omega) m h
/-- The number of places: one of four. -/
def Four4 (pl : Nat) : Prop := pl = 1 ∨ pl = 2 ∨ pl = 4 ∨ pl = 8
/-- The first word of an index's place. -/
def bs (h0 : Int) (pl sz i : Nat) : Nat := 2 + ((h0 + i) % 4294967296 % pl).toNat * per sz
theorem bs_base {h0 : Int} {pl sz i : Nat} (hp : Four4 pl) : base 0 pl sz ((h0 + i) % 4294967296) = (bs h0 pl sz i : Nat) := by
  unfold base bs
  have h : 0 ≤ (h0 + i) % 4294967296 % (pl : Int) := by rcases hp with rfl | rfl | rfl | rfl <;> omega
  generalize (h0 + (i : Int)) % 4294967296 % (pl : Int) = y at *
  have : ((y.toNat * per sz : Nat) : Int) = y * (per sz : Nat) := by rw [Int.natCast_mul, Int.toNat_of_nonneg h]
  omega
theorem slot_lt {h0 : Int} {pl i : Nat} (hp : Four4 pl) : ((h0 + i) % 4294967296 % (pl : Int)).toNat < pl := by rcases hp with rfl | rfl | rfl | rfl <;> omega
theorem bs_lt {h0 : Int} {pl sz i k : Nat} (hp : Four4 pl) (hz : sz ≤ 32) (hk : k < per sz) : 2 ≤ bs h0 pl sz i ∧ bs h0 pl sz i + k < 80 := by
  unfold bs
  have h1 := slot_lt (h0 := h0) (i := i) hp
  have h2 : per sz ≤ 9 := by have := need_le hz; unfold per; omega
  have h3 : pl ≤ 8 := by rcases hp with rfl | rfl | rfl | rfl <;> omega
  generalize ((h0 + (i : Int)) % 4294967296 % (pl : Int)).toNat = y at *
  have h4 : y * per sz ≤ 7 * per sz := Nat.mul_le_mul_right _ (by omega)
  omega
theorem slot_ne {h0 : Int} {pl i j : Nat} (hp : Four4 pl) (hij : i < j) (hj : j < i + pl) : ((h0 + i) % 4294967296 % (pl : Int)).toNat ≠ ((h0 + j) % 4294967296 % (pl : Int)).toNat := by
  rcases hp with rfl | rfl | rfl | rfl <;> omega
theorem bs_ne {h0 : Int} {pl sz i j k l : Nat} (hp : Four4 pl) (hij : i ≠ j) (h1 : j < i + pl) (h2 : i < j + pl) (hk : k < per sz) (hl : l < per sz) : bs h0 pl sz i + k ≠ bs h0 pl sz j + l := by
  have hn : ((h0 + i) % 4294967296 % (pl : Int)).toNat ≠ ((h0 + j) % 4294967296 % (pl : Int)).toNat := by
    rcases Nat.lt_or_gt_of_ne hij with h | h
    · exact slot_ne hp h h1
    · exact fun e => slot_ne hp h h2 e.symm
  unfold bs
  generalize ((h0 + (i : Int)) % 4294967296 % (pl : Int)).toNat = x at *
  generalize ((h0 + (j : Int)) % 4294967296 % (pl : Int)).toNat = y at *
  generalize per sz = p at *
  rcases Nat.lt_or_gt_of_ne hn with h | h
  · have : (x + 1) * p ≤ y * p := Nat.mul_le_mul_right _ h
    rw [Nat.succ_mul] at this
    omega
  · have : (y + 1) * p ≤ x * p := Nat.mul_le_mul_right _ h
    rw [Nat.succ_mul] at this
    omega
/-- What of a letter lies in its place. -/
def LiesK (f : Nat → Int) (b : Nat) (m : ByteArray) (k : Nat) : Prop := f b = m.size ∧ ∀ j, j < k → f (b + 1 + j) = wordOf m j
/-- The words say what is under way. -/
structure Inv (h0 : Int) (pl sz : Nat) (L : List ByteArray) (a : Ab) (S : Sd) (R : Rv) (f : Nat → Int) : Prop where
  sc : S.at' = 0 ∧ S.pl = pl ∧ S.sz = sz ∧ S.L = L ∧ S.sent = a.sent ∧ S.ph = a.sp
  rc : R.at' = 0 ∧ R.pl = pl ∧ R.sz = sz ∧ R.times = 40 ∧ R.got = a.got ∧ R.ph = a.rp
  spa : a.sp < 5 → S.pa = a.pa
  rpb : a.rp < 5 → R.pa = a.pb
  f0 : f 0 = (h0 + a.H) % 4294967296
  f1 : f 1 = (h0 + a.T L) % 4294967296
  ht : a.H ≤ a.T L ∧ a.T L ≤ a.H + pl
  pre : a.inn = (a.out L).take a.H
  s1 : 1 ≤ a.sp → a.sp ≤ 4 → S.oth = (h0 + a.hd) % 4294967296 ∧ a.hd ≤ a.H ∧ a.T L ≤ a.hd + pl
  s2 : 2 ≤ a.sp → a.sp ≤ 4 → S.own = (h0 + a.T L) % 4294967296 ∧ a.T L < a.hd + pl
  s3 : 3 ≤ a.sp → a.sp ≤ 4 → LiesK f (bs h0 pl sz (a.T L)) (a.cur L) (if a.sp = 3 then a.pa else need (a.cur L).size)
  r1 : 1 ≤ a.rp → a.rp ≤ 4 → R.oth = (h0 + a.tl) % 4294967296 ∧ a.H ≤ a.tl ∧ a.tl ≤ a.T L
  r2 : 2 ≤ a.rp → a.rp ≤ 4 → R.own = (h0 + a.H) % 4294967296 ∧ a.H < a.tl
  r3 : 3 ≤ a.rp → a.rp ≤ 4 → R.ld 0 = (a.nxt L).size ∧ ∀ j, j < (if a.rp = 3 then a.pb else need (a.nxt L).size) → R.ld (1 + j) = wordOf (a.nxt L) j
  q : ∀ i, a.H ≤ i → i < a.T L → LiesK f (bs h0 pl sz i) ((a.out L).getD i ByteArray.empty) (need ((a.out L).getD i ByteArray.empty).size)
theorem LiesK.upd {f : Nat → Int} {b k j : Nat} {m : ByteArray} {x : Int} (h : LiesK f b m k) (h1 : b ≠ j) (h2 : ∀ i, i < k → b + 1 + i ≠ j) : LiesK (upd f j x) b m k :=
  ⟨by rw [upd_other h1]; exact h.1, fun i hi => by rw [upd_other (h2 i hi)]; exact h.2 i hi⟩
theorem used_eq {h0 : Int} {i j : Nat} (h1 : i ≤ j) (h2 : j ≤ i + 8) : used ((h0 + i) % 4294967296) ((h0 + j) % 4294967296) = ((j - i : Nat) : Int) := by
  unfold used; omega
theorem idx_eq {h0 : Int} {i j : Nat} (h1 : i ≤ j) (h2 : j ≤ i + 8) : ((h0 + i) % 4294967296 = (h0 + j) % 4294967296) ↔ i = j := by omega
theorem inc_idx {h0 : Int} {i : Nat} : inc ((h0 + i) % 4294967296) = (h0 + ((i + 1 : Nat) : Int)) % 4294967296 := by unfold inc; omega
theorem Four4.le {pl : Nat} (h : Four4 pl) : 1 ≤ pl ∧ pl ≤ 8 := by rcases h with rfl | rfl | rfl | rfl <;> omega
end Go.Proofs.YtnmobalgghggnaaDoor
