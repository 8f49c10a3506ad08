/-
  Plans as plain data, their bytes, and what is read of bytes: no word of the program.
-/
namespace Go.Proofs.YtkgkjkghdllkhaaDoor

/-! ### reading -/
/-- Are too few bytes left for n, or has the reader failed? -/
def lacks (s : ByteArray) (k : Nat) (bad : Bool) (n : Int) : Bool := bad || decide ((s.size : Int) - k < n)
/-- How many bytes have been read behind asking for n. -/
def nextAt (s : ByteArray) (k : Nat) (bad : Bool) (n : Int) : Nat := if lacks s k bad n then k else k + n.toNat
/-- What is read. -/
def readS (s : ByteArray) (k : Nat) (bad : Bool) (n : Int) : ByteArray := if lacks s k bad n then ⟨#[]⟩ else s.extract k (k + n.toNat)
/-- The byte at a place. -/
def byteI (s : ByteArray) (k : Nat) : Int := ((s.data.toList.getD k 0).toNat : Int)
theorem byteI_bounds (s : ByteArray) (k : Nat) : 0 ≤ byteI s k ∧ byteI s k ≤ 255 := by
  unfold byteI
  have := UInt8.toNat_lt (s.data.toList.getD k 0)
  omega
theorem lacks_no {s : ByteArray} {k : Nat} {bad : Bool} {n : Int} (h : lacks s k bad n = false) : bad = false ∧ n ≤ (s.size : Int) - k := by
  unfold lacks at h
  cases bad
  · simp at h; exact ⟨rfl, by omega⟩
  · simp at h
theorem lacks_true (s : ByteArray) (k : Nat) (n : Int) : lacks s k true n = true := by simp [lacks]
theorem lacks_ok {s : ByteArray} {k : Nat} {n : Int} (h : n ≤ (s.size : Int) - k) : lacks s k false n = false := by
  unfold lacks
  rw [decide_eq_false (by omega)]
  rfl
theorem lacks_yes {s : ByteArray} {k : Nat} {n : Int} (h : (s.size : Int) - k < n) (bad : Bool) : lacks s k bad n = true := by
  unfold lacks
  rw [decide_eq_true h]
  simp

/-! ### plans -/
abbrev WinA := Int × Int × Int × Int
abbrev SemA := Int × Int
abbrev ChanA := Int × Int × Int × Int × Int × Int
abbrev PairA := Int × Int
/-- Semaphores, the number of events, priorities, the three actions. -/
abbrev PartA := List SemA × Int × List Int × Int × Int × Int
/-- Frame, cores, partitions, channels, pairs. -/
abbrev PlanA := Int × List (List WinA) × List PartA × List ChanA × List PairA

def two (n : Int) : List Int := [n / 256, n % 256]
def encWin (w : WinA) : List Int := two w.1 ++ two w.2.1 ++ [w.2.2.1, w.2.2.2]
def encCore (ws : List WinA) : List Int := two ws.length ++ ws.flatMap encWin
def encSem (s : SemA) : List Int := [s.1, s.2]
def encPart (p : PartA) : List Int := [(p.1.length : Int)] ++ p.1.flatMap encSem ++ [p.2.1, (p.2.2.1.length : Int)] ++ p.2.2.1 ++ [p.2.2.2.1, p.2.2.2.2.1, p.2.2.2.2.2]
def encChan (c : ChanA) : List Int := [c.1, c.2.1, c.2.2.1, c.2.2.2.1, c.2.2.2.2.1] ++ two c.2.2.2.2.2
def encPair (p : PairA) : List Int := [p.1, p.2]
def magicL : List Int := [80, 85, 82, 49]
def encHead (p : PlanA) : List Int := magicL ++ two p.1 ++ [(p.2.1.length : Int), (p.2.2.1.length : Int), (p.2.2.2.1.length : Int), (p.2.2.2.2.length : Int)]
def enc (p : PlanA) : List Int := encHead p ++ p.2.1.flatMap encCore ++ p.2.2.1.flatMap encPart ++ p.2.2.2.1.flatMap encChan ++ p.2.2.2.2.flatMap encPair

/-- Bytes of numbers. -/
def bytesL (l : List Int) : ByteArray := ⟨(l.map fun z => UInt8.ofNat z.toNat).toArray⟩

def byte (z : Int) : Prop := 0 ≤ z ∧ z ≤ 255
def wide (z : Int) : Prop := 0 ≤ z ∧ z ≤ 65535
def WfWin (w : WinA) : Prop := wide w.1 ∧ wide w.2.1 ∧ byte w.2.2.1 ∧ byte w.2.2.2
def WfSem (s : SemA) : Prop := byte s.1 ∧ byte s.2
def WfPair (s : PairA) : Prop := byte s.1 ∧ byte s.2
def WfChan (c : ChanA) : Prop := byte c.1 ∧ byte c.2.1 ∧ byte c.2.2.1 ∧ byte c.2.2.2.1 ∧ byte c.2.2.2.2.1 ∧ wide c.2.2.2.2.2
def WfPart (p : PartA) : Prop := (∀ s ∈ p.1, WfSem s) ∧ byte p.2.1 ∧ (∀ z ∈ p.2.2.1, byte z) ∧ byte p.2.2.2.1 ∧ byte p.2.2.2.2.1 ∧ byte p.2.2.2.2.2
def WfPlan (p : PlanA) : Prop := wide p.1 ∧ (∀ ws ∈ p.2.1, ∀ w ∈ ws, WfWin w) ∧ (∀ q ∈ p.2.2.1, WfPart q) ∧ (∀ c ∈ p.2.2.2.1, WfChan c) ∧ (∀ r ∈ p.2.2.2.2, WfPair r)

/-- The place of the first partition's list that is too long; -1: none. -/
def badPart : List PartA → Int
  | [] => -1
  | p :: r => if 255 < p.1.length then 5 else if 255 < p.2.2.1.length then 6 else badPart r
def badCore : List (List WinA) → Bool
  | [] => false
  | ws :: r => if 65535 < ws.length then true else badCore r
/-- The place of the first list that is too long; -1: none. -/
def fitAt (p : PlanA) : Int :=
  if 255 < p.2.1.length then 0 else if 255 < p.2.2.1.length then 1 else if 255 < p.2.2.2.1.length then 2 else if 255 < p.2.2.2.2.length then 3
  else if badCore p.2.1 then 4 else badPart p.2.2.1
theorem badPart_fits {l : List PartA} (h : badPart l = -1) : ∀ p ∈ l, p.1.length ≤ 255 ∧ p.2.2.1.length ≤ 255 := by
  induction l with
  | nil => intro p hp; cases hp
  | cons q r ih =>
    unfold badPart at h
    split at h
    · omega
    · split at h
      · omega
      · intro p hp
        rcases List.mem_cons.1 hp with rfl | hp
        · exact ⟨by omega, by omega⟩
        · exact ih h p hp
theorem badCore_fits {l : List (List WinA)} (h : badCore l = false) : ∀ ws ∈ l, ws.length ≤ 65535 := by
  induction l with
  | nil => intro p hp; cases hp
  | cons q r ih =>
    unfold badCore at h
    split at h
    · cases h
    · intro p hp
      rcases List.mem_cons.1 hp with rfl | hp
      · omega
      · exact ih h p hp
/-- All lists are as short as their counts can say. -/
def Fits (p : PlanA) : Prop := p.2.1.length ≤ 255 ∧ p.2.2.1.length ≤ 255 ∧ p.2.2.2.1.length ≤ 255 ∧ p.2.2.2.2.length ≤ 255 ∧ (∀ ws ∈ p.2.1, ws.length ≤ 65535) ∧ ∀ q ∈ p.2.2.1, q.1.length ≤ 255 ∧ q.2.2.1.length ≤ 255
theorem fits_of {p : PlanA} (h : fitAt p = -1) : Fits p := by
  unfold fitAt at h
  split at h; · omega
  split at h; · omega
  split at h; · omega
  split at h; · omega
  split at h; · omega
  exact ⟨by omega, by omega, by omega, by omega, badCore_fits (by simpa using ‹¬ badCore p.2.1 = true›), badPart_fits h⟩
theorem badPart_of {l : List PartA} (h : ∀ p ∈ l, p.1.length ≤ 255 ∧ p.2.2.1.length ≤ 255) : badPart l = -1 := by
  induction l with
  | nil => rfl
  | cons q r ih =>
    have h0 := h q (List.mem_cons_self ..)
    unfold badPart
    rw [if_neg (by omega), if_neg (by omega)]
    exact ih fun p hp => h p (List.mem_cons_of_mem _ hp)
theorem badCore_of {l : List (List WinA)} (h : ∀ p ∈ l, p.length ≤ 65535) : badCore l = false := by
  induction l with
  | nil => rfl
  | cons q r ih =>
    have h0 := h q (List.mem_cons_self ..)
    unfold badCore
    rw [if_neg (by omega)]
    exact ih fun p hp => h p (List.mem_cons_of_mem _ hp)
theorem fitAt_of {p : PlanA} (h : Fits p) : fitAt p = -1 := by
  obtain ⟨h1, h2, h3, h4, h5, h6⟩ := h
  unfold fitAt
  rw [if_neg (by omega), if_neg (by omega), if_neg (by omega), if_neg (by omega), badCore_of h5, if_neg (by simp)]
  exact badPart_of h6

/-! ### decoders -/
/-- Where a reader stands, and whether it has failed. -/
abbrev St := Nat × Bool
section
variable {α β : Type}
def bnd (f : St → α × St) (g : α → St → β × St) : St → β × St := fun σ => g (f σ).1 (f σ).2
def ret (x : α) : St → α × St := fun σ => (x, σ)
/-- n times. -/
def rep (f : St → α × St) : Nat → St → List α × St
  | 0, σ => ([], σ)
  | n + 1, σ => ((rep f n σ).1 ++ [(f (rep f n σ).2).1], (f (rep f n σ).2).2)
theorem rep_cons (f : St → α × St) : ∀ (n : Nat) (σ : St), rep f (n + 1) σ = ((f σ).1 :: (rep f n (f σ).2).1, (rep f n (f σ).2).2)
  | 0, σ => rfl
  | n + 1, σ => by
    rw [rep, rep_cons f n σ]
    rfl
theorem rep_length (f : St → α × St) : ∀ (n : Nat) (σ : St), (rep f n σ).1.length = n
  | 0, _ => rfl
  | n + 1, σ => by simp [rep, rep_length f n σ]
end
def d8 (s : ByteArray) (σ : St) : Int × St := (if lacks s σ.1 σ.2 1 then 0 else byteI s σ.1, nextAt s σ.1 σ.2 1, lacks s σ.1 σ.2 1)
def d16 (s : ByteArray) (σ : St) : Int × St := (if lacks s σ.1 σ.2 2 then 0 else byteI s σ.1 * 256 + byteI s (σ.1 + 1), nextAt s σ.1 σ.2 2, lacks s σ.1 σ.2 2)
def dWin (s : ByteArray) : St → WinA × St := bnd (d16 s) fun a => bnd (d16 s) fun b => bnd (d8 s) fun c => bnd (d8 s) fun d => ret (a, b, c, d)
def dCore (s : ByteArray) : St → List WinA × St := bnd (d16 s) fun n => rep (dWin s) n.toNat
def dSem (s : ByteArray) : St → SemA × St := bnd (d8 s) fun a => bnd (d8 s) fun b => ret (a, b)
def dPair (s : ByteArray) : St → PairA × St := bnd (d8 s) fun a => bnd (d8 s) fun b => ret (a, b)
def dChan (s : ByteArray) : St → ChanA × St := bnd (d8 s) fun a => bnd (d8 s) fun b => bnd (d8 s) fun c => bnd (d8 s) fun d => bnd (d8 s) fun e => bnd (d16 s) fun f => ret (a, b, c, d, e, f)
def dPart (s : ByteArray) : St → PartA × St := bnd (d8 s) fun n => bnd (rep (dSem s) n.toNat) fun sems => bnd (d8 s) fun ev => bnd (d8 s) fun m => bnd (rep (d8 s) m.toNat) fun procs =>
  bnd (d8 s) fun x => bnd (d8 s) fun y => bnd (d8 s) fun z => ret (sems, ev, procs, x, y, z)
def dPlan (s : ByteArray) : St → PlanA × St := bnd (d16 s) fun fr => bnd (d8 s) fun nc => bnd (d8 s) fun np => bnd (d8 s) fun nh => bnd (d8 s) fun nr =>
  bnd (rep (dCore s) nc.toNat) fun cs => bnd (rep (dPart s) np.toNat) fun ps => bnd (rep (dChan s) nh.toNat) fun hs => bnd (rep (dPair s) nr.toNat) fun rs => ret (fr, cs, ps, hs, rs)

/-- Do the bytes begin with the four characters? -/
def magicB (s : ByteArray) : Bool := decide (byteI s 0 = 80 ∧ byteI s 1 = 85 ∧ byteI s 2 = 82 ∧ byteI s 3 = 49)
/-- The number of what is wrong with bytes; 0: nothing. -/
def decE (s : ByteArray) : Int := if s.size < 4 then 20 else if magicB s = false then 30 else if (dPlan s (4, false)).2.2 then 20 else if (dPlan s (4, false)).2.1 < s.size then 21 else 0
def decA (s : ByteArray) : Int := if s.size < 4 then 0 else if magicB s = false then 0 else if (dPlan s (4, false)).2.2 then (dPlan s (4, false)).2.1 else if (dPlan s (4, false)).2.1 < s.size then (dPlan s (4, false)).2.1 else 0
def emptyA : PlanA := (0, [], [], [], [])
def decP (s : ByteArray) : PlanA := if decE s = 0 then (dPlan s (4, false)).1 else emptyA
end Go.Proofs.YtkgkjkghdllkhaaDoor
