/-
  How many words a slot needs; a new get; whether a message is valid still.
-/
import Derived.Test.YtggpljhlfhhcaaaDoorSq
import Derived.Test.YtggpljhlfhhcaaaDoorText
import Derived.Deep.AppendLies
import Derived.Laws.OwnMore
namespace Go.Proofs.YtggpljhlfhhcaaaDoor
open Go.RowKit

/-- May a size be? -/
def sizeB (x : Int) : Bool := decide (1 ≤ x ∧ x ≤ 32)
set_option maxHeartbeats 1000000 in
theorem swords_yes (n : Nat) (x : Int) (hx : x = n) (w : World) (h1 : 1 ≤ n) (h2 : n ≤ 32) : Calls Tryd.prog 12 #[.int .i64 x] w fun e w' => e = .returned (.tuple #[.int .i64 (3 + (need n : Nat)), .int .i64 0]) ∧ w = w' := by
  subst hx
  have e1 : IntKind.i64.wrap ((n : Int) + 3) = (n : Int) + 3 := IntWalk.i64_in _ (by omega)
  have e2 : ((n : Int) + 3).tdiv 4 = (need n : Nat) := by
    rw [Int.tdiv_eq_ediv_of_nonneg (by omega)]
    unfold need
    omega
  have hn : need n ≤ 8 := by unfold need; omega
  have e3 : IntKind.i64.wrap ((need n : Nat) : Int) = (need n : Nat) := IntWalk.i64_in _ (by omega)
  have e4 : IntKind.i64.wrap (3 + ((need n : Nat) : Int)) = 3 + (need n : Nat) := IntWalk.i64_in _ (by omega)
  have b1 : ¬ ((n : Int) < 1) := by omega
  have b2 : ¬ (32 < (n : Int)) := by omega
  clear hn h1 h2
  go_enter Tryd.func12, Tryd.ntmps12
  go_wp2_with fail
  go_ret2
  exact ⟨rfl, rfl⟩
set_option maxHeartbeats 1000000 in
theorem swords_no (x : Int) (w : World) (h : ¬ (1 ≤ x ∧ x ≤ 32)) : Calls Tryd.prog 12 #[.int .i64 x] w fun e w' => e = .returned (.tuple #[.int .i64 0, .int .i64 130]) ∧ w = w' := by
  by_cases h1 : x < 1
  · go_enter Tryd.func12, Tryd.ntmps12
    go_wp2_with fail
    go_ret2
    exact ⟨rfl, rfl⟩
  · have h2 : 32 < x := by omega
    go_enter Tryd.func12, Tryd.ntmps12
    go_wp2_with fail
    go_ret2
    exact ⟨rfl, rfl⟩
set_option maxHeartbeats 1000000 in
theorem fresh_no (t n : Int) (w : World) : Calls Tryd.prog 26 #[.int .u32 t, .int .u32 n, .int .u16 0] w fun e w' => e = .returned (.tuple #[.bool false, .int .i64 131]) ∧ w = w' := by
  go_enter Tryd.func26, Tryd.ntmps26
  go_wp2_with fail
  go_ret2
  exact ⟨rfl, rfl⟩
set_option maxHeartbeats 1000000 in
theorem fresh_yes (t n a : Int) (w : World) (ha : 1 ≤ a ∧ a < 65536) : Calls Tryd.prog 26 #[.int .u32 t, .int .u32 n, .int .u16 a] w fun e w' => e = .returned (.tuple #[.bool (decide ((n - t) % 4294967296 < a)), .int .i64 0]) ∧ w = w' := by
  have h0 : ¬ a = 0 := by omega
  have h1 : IntKind.u32.wrap (n - t) = (n - t) % 4294967296 := IntKind.wrap_u32' _
  have h2 : IntKind.u32.wrap a = a := by rw [IntKind.wrap_u32']; omega
  generalize (n - t) % 4294967296 = d at *
  clear ha
  by_cases h : d < a
  · rw [decide_eq_true h]
    go_enter Tryd.func26, Tryd.ntmps26
    go_wp2_with fail
    go_ret2
    exact ⟨rfl, rfl⟩
  · rw [decide_eq_false h]
    go_enter Tryd.func26, Tryd.ntmps26
    go_wp2_with fail
    go_ret2
    exact ⟨rfl, rfl⟩
/-- A put, and a get, as they lie. -/
structure PutAt (w : World) (P B : Nat) : Prop where
  c0 : w.cell? ⟨P, 0, none⟩ = some (.pointer (some ⟨B, 0, none⟩))
structure GetAt (w : World) (K R : Nat) (n : Nat) : Prop where
  c0 : w.cell? ⟨K, 0, none⟩ = some (.pointer (some ⟨R, 0, none⟩))
  c1 : w.cell? ⟨K, 1, none⟩ = some (.int .i64 n)
theorem PutAt.same {w w' : World} {P B : Nat} (h : PutAt w P B) (e : w'.heap[P]? = w.heap[P]?) : PutAt w' P B := ⟨by rw [World.cell?_of_block (w := w) e]; exact h.c0⟩
theorem PutAt.lt {w : World} {P B : Nat} (h : PutAt w P B) : P < w.heap.size := cell_lt h.c0
theorem PutAt.keep {w w' : World} {P B : Nat} (h : PutAt w P B) (hB : Below w.heap.size w w') : PutAt w' P B := h.same (hB.block _ h.lt)
theorem PutAt.chg {S : Nat → Prop} {w w' : World} {P B : Nat} (h : PutAt w P B) (hC : Chg S w w') (hS : ¬ S P) : PutAt w' P B := h.same (hC.block _ h.lt hS)
theorem GetAt.same {w w' : World} {K R n : Nat} (h : GetAt w K R n) (e : w'.heap[K]? = w.heap[K]?) : GetAt w' K R n := ⟨by rw [World.cell?_of_block (w := w) e]; exact h.c0, by rw [World.cell?_of_block (w := w) e]; exact h.c1⟩
theorem GetAt.lt {w : World} {K R n : Nat} (h : GetAt w K R n) : K < w.heap.size := cell_lt h.c0
theorem GetAt.keep {w w' : World} {K R n : Nat} (h : GetAt w K R n) (hB : Below w.heap.size w w') : GetAt w' K R n := h.same (hB.block _ h.lt)
theorem GetAt.chg {S : Nat → Prop} {w w' : World} {K R n : Nat} (h : GetAt w K R n) (hC : Chg S w w') (hS : ¬ S K) : GetAt w' K R n := h.same (hC.block _ h.lt hS)
set_option maxHeartbeats 1000000 in
theorem newget_no (at' x : Int) (w : World) (h : ¬ (1 ≤ x ∧ x ≤ 32)) : Calls Tryd.prog 10 #[.int .i64 at', .int .i64 x] w fun e w' => e = .returned (.tuple #[.pointer none, .int .i64 130]) ∧ w = w' := by
  have HF := fun W => Lib.hid (swords_no x W h)
  clear h
  go_enter Tryd.func10, Tryd.ntmps10
  go_wp2_with fail
  with_reducible refine (HF _).out.mono ?_
  rintro e w1 ⟨rfl, rfl⟩
  go_wp2_with fail
  go_ret2
  exact ⟨rfl, rfl⟩
set_option maxHeartbeats 4000000 in
set_option maxRecDepth 100000 in
theorem newget_yes (at' x : Int) (n : Nat) (w : World) (hx : x = n) (h1 : 1 ≤ n) (h2 : n ≤ 32) (ha : -1000 ≤ at' ∧ at' ≤ 1000) :
    Calls Tryd.prog 10 #[.int .i64 at', .int .i64 x] w fun e w' => e = .returned (.tuple #[.pointer (some ⟨w.heap.size + 1, 0, none⟩), .int .i64 0]) ∧ ReaderAt w' w.heap.size 0 (rd0 at' (2 + need n)) ∧ GetAt w' (w.heap.size + 1) w.heap.size n ∧ Below w.heap.size w w' ∧ w'.heap.size = w.heap.size + 2 := by
  subst hx
  have hn : need n ≤ 8 := by unfold need; omega
  have HF := fun W => Lib.hid (swords_yes n n rfl W h1 h2)
  have HR := fun W => Lib.hid (newr_yes at' (2 + (need n : Nat)) (2 + need n) W (by omega) (by omega) (by omega) ha)
  have e4 : IntKind.i64.wrap (3 + ((need n : Nat) : Int) - 1) = 2 + (need n : Nat) := by rw [IntWalk.i64_in _ (by omega)]; omega
  clear h1 h2 ha hn
  go_enter Tryd.func10, Tryd.ntmps10
  go_wp2_with fail
  with_reducible refine (HF _).out.mono ?_
  rintro e w1 ⟨rfl, rfl⟩
  go_wp2_with fail
  with_reducible refine (HR _).out.mono ?_
  rintro e w1 ⟨rfl, hR, hB, hz⟩
  have H1 := Lib.hid hR
  have H2 := Lib.hid hB
  have H3 := Lib.hid hz
  clear hR hB
  go_wp2_with fail
  go_ret2
  have hA : Below w1.heap.size w1 (w1.alloc (.cells #[.pointer (some ⟨w.heap.size, 0, none⟩), .int .i64 n] 63)) := (Below.refl _ _).alloc (Nat.le_refl _) _
  refine ⟨rfl, H1.out.keep hA, ⟨al_new _ _ _ _ _ hz.symm rfl, al_new _ _ _ _ _ hz.symm rfl⟩, H2.out.trans (hA.mono (by omega)), by simp [hz]⟩
/-- A slot's words behind the counter. -/
def slotV (m : ByteArray) (tick : Int) (q : Nat) : Int := if q = 0 then tick else if q = 1 then m.size else wordOf m (q - 2)
/-- They as the one version of a writer. -/
def slotF (m : ByteArray) (tick : Int) (n : Nat) (p : Option Addr) (c : Nat) : Nat → Ver := fun _ => ⟨p, 2 + need n, c, slotV m tick⟩
def putS (at' : Int) (n : Nat) (m : ByteArray) (tick : Int) : Wr := wr0 at' (2 + need n) 1 (flatV (2 + need n) (slotF m tick n none 0))
theorem letV_lit (f : Nat → Int) : letV f = .agg #[.int .u32 (f 0), .int .u32 (f 1), .int .u32 (f 2), .int .u32 (f 3), .int .u32 (f 4), .int .u32 (f 5), .int .u32 (f 6), .int .u32 (f 7)] := rfl
theorem slot_list (m : ByteArray) (tick : Int) (k : Nat) : (Value.int .u32 tick :: Value.int .u32 m.size :: ((List.range k).map fun q => Value.int .u32 (wordOf m q))) = (List.range (2 + k)).map fun i => Value.int .u32 (slotV m tick i) := by
  apply List.ext_getElem
  · simp; omega
  · intro i h1 h2
    match i with
    | 0 => simp [slotV]
    | 1 => simp [slotV]
    | q + 2 => simp [slotV]
theorem slot_vers {w : World} {g cap n : Nat} {m : ByteArray} {tick : Int} (hU : Us w (some ⟨g, 0, none⟩) (2 + need n) (slotV m tick)) (hg : g < w.heap.size) (o : Obj) (ho : o = .cells #[.slice (some ⟨g, 0, none⟩) (2 + need n) cap] 22) :
    VersN (w.alloc o).heap.size (w.alloc o) (some ⟨w.heap.size, 0, none⟩) 1 (slotF m tick n (some ⟨g, 0, none⟩) cap) := fun i hi => by
  subst ho
  obtain rfl : i = 0 := by omega
  refine ⟨_, _, rfl, by simp, al_new _ _ _ _ _ (by simp) rfl, fun j hj => ⟨_, _, rfl, by simp; omega, ?_⟩⟩
  exact al_cell (hU.cell hj)
theorem slot_ok (m : ByteArray) (tick : Int) (n : Nat) (p : Option Addr) (c : Nat) (hn : need n ≤ 8) : ∀ i, i < 1 → okV (slotF m tick n p c) i := fun i _ => ⟨⟨by show 1 ≤ 2 + need n; omega, by show 2 + need n ≤ 32; omega⟩, rfl⟩
theorem slot_len (m : ByteArray) (tick : Int) (n : Nat) (p : Option Addr) (c : Nat) (hn : need n ≤ 8) : 1 * (slotF m tick n p c 0).n ≤ 2000000 := by
  show 1 * (2 + need n) ≤ 2000000
  omega
/-- What a new put is. -/
def NewPutQ (at' : Int) (n : Nat) (m : ByteArray) (tick : Int) (w : World) (e : Ending) (w' : World) : Prop :=
  Below w.heap.size w w' ∧ ∃ P B G cap, e = .returned (.tuple #[.pointer (some ⟨P, 0, none⟩), .int .i64 0]) ∧ w.heap.size ≤ G ∧ G < B ∧ B < P ∧ P < w'.heap.size ∧ WriterAt w' B 0 (some ⟨G, 0, none⟩) cap (putS at' n m tick) ∧ PutAt w' P B
set_option maxHeartbeats 4000000 in
set_option maxRecDepth 100000 in
theorem newput_yes (at' x : Int) (n : Nat) (m : ByteArray) (tick : Int) (w : World) (hx : x = n) (h1 : 1 ≤ n) (h2 : n ≤ 32) (hm1 : 1 ≤ m.size) (hm2 : m.size ≤ n) (ht : 0 ≤ tick ∧ tick < 4294967296) (ha : -1000 ≤ at' ∧ at' ≤ 1000) :
    Calls Tryd.prog 13 #[.int .i64 at', .int .i64 x, .string m, .int .u32 tick] w fun e w' => NewPutQ at' n m tick w e w' := by
  subst hx
  have hn : need n ≤ 8 := by unfold need; omega
  have HF := fun W => Lib.hid (swords_yes n n rfl W h1 h2)
  have HP := fun W => Lib.hid (pack_any m W (by omega))
  have e4 : IntKind.i64.wrap (3 + ((need n : Nat) : Int) - 3) = (need n : Nat) := by rw [IntWalk.i64_in _ (by omega)]; omega
  have e5 : IntKind.u32.wrap (m.size : Int) = m.size := by rw [IntKind.wrap_u32']; omega
  have b1 : ¬ ((m.size : Int) < 1) := by omega
  have b2 : ¬ ((n : Int) < m.size) := by omega
  have b3 : (0 : Int) ≤ (need n : Nat) := by omega
  have b4 : ((need n : Nat) : Int) ≤ 8 := by omega
  have HH := Lib.hid (And.intro hn (And.intro h1 (And.intro h2 (And.intro hm1 (And.intro hm2 (And.intro ht ha))))))
  clear hn h1 h2 hm1 hm2 ht ha
  go_enter Tryd.func13, Tryd.ntmps13
  go_wp2_with fail
  with_reducible refine (HF _).out.mono ?_
  rintro e w1 ⟨rfl, rfl⟩
  go_wp2_with fail
  with_reducible refine (HP _).out.mono ?_
  rintro e w1 ⟨rfl, hB1⟩
  have HB1 := Lib.hid hB1
  clear hB1
  rw [letV_lit]
  obtain ⟨i0, hi, hz0, hz1, hz2⟩ := info_parts info32
  have HI := Lib.hid (And.intro hi (And.intro hz0 (And.intro hz1 hz2)))
  clear hi hz0 hz1 hz2
  have hrow0 : ∀ (W : World) (c : Array Value), c = #[.int .u32 tick, .int .u32 m.size] → (W.alloc (.cells c 32)).ownsRow 0 32 1 (.slice (some ⟨W.heap.size, 0, none⟩) 2 2) 2 [.int .u32 tick, .int .u32 m.size] := fun W c hc => by
    subst hc
    exact World.ownsRow_lit (size := 1) W _ 2 (Nat.zero_le _) (by unfold maxLen; omega) rfl
  have HR0 := Lib.hid hrow0
  clear hrow0
  go_wp2_with (at_builtin; (refine wpList_append_lies _ rfl _ _ 22 rfl 0 32 i0 (.int .u32 0) 1 4 Tryd.underlying22 HI.out.1 HI.out.2.1 HI.out.2.2.1 HI.out.2.2.2 rfl (by decide) _ 2 _ rfl (by have := HR0.out (w1.alloc (.cells #[.int .u32 (wordOf m 0), .int .u32 (wordOf m 1), .int .u32 (wordOf m 2), .int .u32 (wordOf m 3), .int .u32 (wordOf m 4), .int .u32 (wordOf m 5), .int .u32 (wordOf m 6), .int .u32 (wordOf m 7)] 89)) _ rfl; rw [World.size_alloc] at this; exact this) ⟨w1.heap.size, 0, none⟩ (need n) 8 ((List.range (need n)).map fun q => .int .u32 (wordOf m q)) rfl ?c0 ?c1 ?c2 ?c3 ?c4 ?c5 ?c6 (w1.heap.size + 1 + 1) ?c7 ?c8))
  case c0 => simp
  case c1 =>
    intro j u hu
    have hj : j < need n := by have := (List.getElem?_eq_some_iff.1 hu).1; simpa using this
    rw [List.getElem?_map, List.getElem?_range hj] at hu
    injection hu with hu
    subst hu
    have hj8 : j < 8 := Nat.lt_of_lt_of_le hj HH.out.1
    rw [add_off, Nat.zero_add]
    refine al_cell (al_new _ _ _ _ _ rfl ?_)
    match j, hj8 with
    | 0, _ => rfl
    | 1, _ => rfl
    | 2, _ => rfl
    | 3, _ => rfl
    | 4, _ => rfl
    | 5, _ => rfl
    | 6, _ => rfl
    | 7, _ => rfl
  case c2 =>
    intro u hu
    obtain ⟨_, _, rfl⟩ := List.mem_map.1 hu
    rfl
  case c3 => have := HH.out; unfold need; omega
  case c4 => have := HH.out.1; unfold maxLen; omega
  case c5 => have := HH.out.1; omega
  case c6 => exact Nat.zero_le _
  case c7 => simp
  case c8 =>
    intro g cap w2 hown hgrow hat hlt
    have hown := slot_list m tick (need n) ▸ hown
    obtain ⟨G, cap2, hv, _, hG2, hU, _⟩ := words_own (by omega) hown
    injection hv with hv1 _ hv3
    injection hv1 with hv1
    injection hv1 with hv1
    subst hv1 hv3
    have hB2 : Below w1.heap.size w1 w2 := (((Below.refl _ w1).alloc (Nat.le_refl _) (.cells #[.int .u32 (wordOf m 0), .int .u32 (wordOf m 1), .int .u32 (wordOf m 2), .int .u32 (wordOf m 3), .int .u32 (wordOf m 4), .int .u32 (wordOf m 5), .int .u32 (wordOf m 6), .int .u32 (wordOf m 7)] 89)).alloc (by simp) _).grown hgrow (by simp; omega) (fun q hq => by simp [Value.ownBlock] at hq; omega)
    have hgge : w1.heap.size ≤ g := by
      rcases hat with e | e
      · simp [Value.ownBlock] at e; omega
      · omega
    have HU := Lib.hid hU
    have HB2 := Lib.hid (HB1.out.trans (hB2.mono HB1.out.size))
    have HG := Lib.hid (And.intro (Nat.le_trans HB1.out.size hgge) hlt)
    clear hgrow hown hU hB2 hat hgge hlt
    go_wp2_with fail
    with_reducible refine (neww_any at' _ 1 1 (slotF m tick n (some ⟨g, 0, none⟩) cap) _ (slot_vers HU.out HG.out.2 _ rfl) (by omega) (fun _ => slot_len m tick n _ _ HH.out.1) (by omega) HH.out.2.2.2.2.2.2).mono ?_
    rintro e w3 ⟨hB3, h3⟩
    rcases h3 with ⟨_, B, G, cap3, rfl, hb0, hb1, hb2, hb3, hW⟩ | ⟨⟨i, hi, hno⟩, _⟩
    · have hA3 : Below w2.heap.size w2 w3 := ((Below.refl _ w2).alloc (Nat.le_refl _) _).trans (hB3.mono (by simp))
      have HB3 := Lib.hid (HB2.out.trans (hA3.mono HB2.out.size))
      have HW := Lib.hid hW
      have HX := Lib.hid (show w2.heap.size ≤ G ∧ G < B ∧ B < w3.heap.size ∧ w.heap.size ≤ w2.heap.size from ⟨by simp at hb1; omega, hb2, hb3, HB2.out.size⟩)
      clear hB3 hA3 hb0 hb1 hb2 hb3 hW
      go_wp2_with fail
      go_ret2
      have hA : Below w3.heap.size w3 (w3.alloc (.cells #[.pointer (some ⟨B, 0, none⟩)] 57)) := (Below.refl _ _).alloc (Nat.le_refl _) _
      refine ⟨HB3.out.trans (hA.mono HB3.out.size), w3.heap.size, B, G, cap3, rfl, by have := HX.out; omega, HX.out.2.1, HX.out.2.2.1, by simp, HW.out.keep hA, ⟨al_new _ _ _ _ _ rfl rfl⟩⟩
    · exact absurd (slot_ok m tick n _ _ HH.out.1 i hi) hno
set_option maxHeartbeats 1000000 in
theorem newput_no (at' x : Int) (m : ByteArray) (tick : Int) (w : World) (h : ¬ (1 ≤ x ∧ x ≤ 32) ∨ m.size = 0 ∨ x < m.size) : Calls Tryd.prog 13 #[.int .i64 at', .int .i64 x, .string m, .int .u32 tick] w fun e w' => e = .returned (.tuple #[.pointer none, .int .i64 130]) ∧ w = w' := by
  by_cases hs : 1 ≤ x ∧ x ≤ 32
  · obtain ⟨n, rfl⟩ : ∃ n : Nat, x = n := ⟨x.toNat, by omega⟩
    have HF := fun W => Lib.hid (swords_yes n n rfl W (by omega) (by omega))
    have hh : m.size = 0 ∨ (1 ≤ (m.size : Int) ∧ (n : Int) < m.size) := by omega
    clear h hs
    rcases hh with h | ⟨h, h2⟩
    · go_enter Tryd.func13, Tryd.ntmps13
      go_wp2_with fail
      with_reducible refine (HF _).out.mono ?_
      rintro e w1 ⟨rfl, rfl⟩
      go_wp2_with fail
      go_ret2
      exact ⟨rfl, rfl⟩
    · go_enter Tryd.func13, Tryd.ntmps13
      go_wp2_with fail
      with_reducible refine (HF _).out.mono ?_
      rintro e w1 ⟨rfl, rfl⟩
      go_wp2_with fail
      go_ret2
      exact ⟨rfl, rfl⟩
  · have HF := fun W => Lib.hid (swords_no x W hs)
    clear h hs
    go_enter Tryd.func13, Tryd.ntmps13
    go_wp2_with fail
    with_reducible refine (HF _).out.mono ?_
    rintro e w1 ⟨rfl, rfl⟩
    go_wp2_with fail
    go_ret2
    exact ⟨rfl, rfl⟩
end Go.Proofs.YtggpljhlfhhcaaaDoor
