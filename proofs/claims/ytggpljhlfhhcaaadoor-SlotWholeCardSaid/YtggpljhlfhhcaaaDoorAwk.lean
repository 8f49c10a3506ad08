/-
  A new memory; a put that is done step by step, and a get behind it.
-/
import Derived.Test.YtggpljhlfhhcaaaDoorSl
import Derived.Test.YtggpljhlfhhcaaaDoorSeq
namespace Go.Proofs.YtggpljhlfhhcaaaDoor
open Go.RowKit

theorem six_of {w : World} (h : GOk w) : 6 ≤ w.heap.size := (h 0 (by decide)).lt
theorem flat_wf {n L : Nat} {F : Nat → Ver} (h1 : 1 ≤ n) (h : ∀ i, i < L → Wf n (F i).v) : Wf (L * n) (flatV n F) := fun q hq => by
  unfold flatV
  have h2 : q / n < L := Nat.div_lt_of_lt_mul (by rw [Nat.mul_comm]; exact hq)
  exact h _ h2 _ (Nat.mod_lt _ h1)
theorem slot_wf {m : ByteArray} {tick : Int} (hm : m.size ≤ 32) (ht : 0 ≤ tick ∧ tick < 4294967296) (n : Nat) : Wf n (slotV m tick) := fun q _ => by
  unfold slotV
  split
  · exact ht
  · split
    · omega
    · exact wordOf_rng m _
theorem put_vf {at' : Int} {sz : Nat} {m : ByteArray} {tick : Int} (hm : m.size ≤ 32) (ht : 0 ≤ tick ∧ tick < 4294967296) : Wf ((putS at' sz m tick).L * (putS at' sz m tick).k.n) (putS at' sz m tick).V :=
  flat_wf (n := 2 + need sz) (L := 1) (F := slotF m tick sz none 0) (by omega) fun _ _ => slot_wf hm ht _
theorem new_one (n : Nat) (h1 : 1 ≤ n) (h2 : n ≤ 4096) (x : Int) (hx : x = n) (w : World) :
    Calls Tryd.prog 7 #[.int .i64 x] w fun e w' => ∃ g b, e = .returned (.tuple #[.pointer (some ⟨g, 0, none⟩), .int .i64 0]) ∧ MemAt w' g b n (fun _ => 0) 0 ∧ w.heap.size ≤ g ∧ w.heap.size ≤ b ∧ Below w.heap.size w w' := by
  subst hx; exact new_yes n w h1 h2
/-- A put and a get in one world; the put has done so many steps. -/
structure Pl (H : Nat) (w : World) (g b n K R sz P B ca : Nat) (A : Option Addr) (at' : Nat) (m : ByteArray) (tick : Int) (C k : Nat) (s : Wr) (f : Nat → Int) (r : Rd) : Prop where
  sm : Sm H w g b n K R sz f C r
  pt : Pt w P B A ca s
  ap : Ap H g b K R P B A
  p1 : Put1 at' sz m tick k s f
section
variable {H : Nat} {w w' : World} {g b n K R sz P B ca at' C k : Nat} {A : Option Addr} {m : ByteArray} {tick : Int} {s : Wr} {f : Nat → Int} {r : Rd}
theorem Pl.keep (h : Pl H w g b n K R sz P B ca A at' m tick C k s f r) (hB : Below w.heap.size w w') : Pl H w' g b n K R sz P B ca A at' m tick C k s f r := ⟨h.sm.keep hB, h.pt.keep hB, h.ap, h.p1⟩
theorem pl_write (h : Pl H w g b n K R sz P B ca A at' m tick C k s f r) (hC : C ≤ 1000000) (hM : at' + (2 + need sz) < n) (hk : k < 2 + need sz + 2) (d : Bool) (hd : decide (k + 1 = 2 + need sz + 2) = d) :
    Calls Tryd.prog 16 #[.pointer (some ⟨B, 0, none⟩), .pointer (some ⟨g, 0, none⟩)] w fun e w' => e = .returned (.bool d) ∧ Pl H w' g b n K R sz P B ca A at' m tick (C + 1) (k + 1) (s.step n) (s.word n f) r ∧ Below H w w' := by
  obtain ⟨h1, h2⟩ := h.p1.step hM hk
  exact (sl_write h.sm h.pt h.ap hC d (by rw [h2, hd])).mono fun e w' ⟨he, a, b, c, _⟩ => ⟨he, ⟨a, b, h.ap, h1⟩, c⟩
theorem pl_read {j : Nat} (h : Pl H w g b n K R sz P B ca A at' m tick C (2 + need sz + 2) s f r) (hg : Get1 at' sz m tick s f j r) (hC : C ≤ 1000000) (hr : r.tr ≤ 1000) (hM : at' + (2 + need sz) < n) (hj : j < 2 + need sz + 2) (d : Bool) (hd : decide (j + 1 = 2 + need sz + 2) = d) :
    Calls Tryd.prog 20 #[.pointer (some ⟨R, 0, none⟩), .pointer (some ⟨g, 0, none⟩)] w fun e w' => e = .returned (.bool d) ∧ Pl H w' g b n K R sz P B ca A at' m tick (C + 1) (2 + need sz + 2) s f (r.step n f) ∧ Get1 at' sz m tick s f (j + 1) (r.step n f) ∧ Below H w w' ∧ Chg (ST g b R) w w' := by
  obtain ⟨h1, h2⟩ := hg.step h.p1.wi hM hj
  exact (sl_read h.sm h.pt h.ap hC (by omega) d (by rw [h2, hd])).mono fun e w' ⟨he, a, b, c, c2⟩ => ⟨he, ⟨a, b, h.ap, h.p1⟩, h1, c, c2⟩
theorem pl_message (h : Pl H w g b n K R sz P B ca A at' m tick C (2 + need sz + 2) s f r) (hg : Get1 at' sz m tick s f (2 + need sz + 2) r) (h1 : 1 ≤ sz) (h2 : sz ≤ 32) (hm : m.size ≤ sz) :
    Calls Tryd.prog 23 #[.pointer (some ⟨K, 0, none⟩)] w fun e w' => e = .returned (.tuple #[.string m, .int .u32 tick, .bool true]) ∧ Below w.heap.size w w' := by
  obtain ⟨e1, e2, e3, e4⟩ := hg.said h.p1.done.2 hm
  have := sm_message_yes h.sm e1 e2 h1 h2
  rw [e3, e4] at this
  exact this
/-- A new memory, a new put, a new get. -/
theorem pl_of {at0 : Int} (hM : MemAt w g b n (fun _ => 0) 0) (hW : WriterAt w B 0 A ca (putS at' sz m tick)) (hP : PutAt w P B) (hA : ∃ G, A = some ⟨G, 0, none⟩ ∧ g < G ∧ b < G ∧ G < B) (hR : ReaderAt w R 0 (rd0 at0 (2 + need sz))) (hK : GetAt w K R sz) (hG : GOk w) (hm : m.size ≤ 32) (ht : 0 ≤ tick ∧ tick < 4294967296) (h6 : 6 ≤ H) (h1 : H ≤ g ∧ H ≤ b ∧ B < P ∧ P < R ∧ R < K) (hn : n ≤ 4096) (hM2 : at' + (2 + need sz) < n) :
    Pl H w g b n K R sz P B ca A at' m tick 0 0 (putS at' sz m tick) (fun _ => 0) (rd0 at0 (2 + need sz)) := by
  obtain ⟨G, rfl, g1, g2, g3⟩ := hA
  refine ⟨sm_of hM hR hK hG (fun _ _ => by show (0 : Int) ≤ 0 ∧ (0 : Int) < 4294967296; omega) (fun _ => by show (0 : Int) ≤ 0 ∧ (0 : Int) < 4294967296; omega) h6 (by omega) hn, ⟨hW, hP, put_vf hm ht⟩, ⟨by omega, by omega, fun x o e => ?_⟩, put1_0 hM2⟩
  injection e with e
  injection e with e1 _
  omega
end
end Go.Proofs.YtggpljhlfhhcaaaDoor
