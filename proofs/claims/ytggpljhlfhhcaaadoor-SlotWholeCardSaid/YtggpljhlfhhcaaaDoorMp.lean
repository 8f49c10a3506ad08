/-
  A memory and a put, no get yet.
-/
import Derived.Test.YtggpljhlfhhcaaaDoorAwkW
namespace Go.Proofs.YtggpljhlfhhcaaaDoor
open Go.RowKit

structure Mp (H : Nat) (w : World) (g b n P B ca : Nat) (A : Option Addr) (at' sz : Nat) (m : ByteArray) (tick : Int) (C k : Nat) (s : Wr) (f : Nat → Int) : Prop where
  mem : ∃ c : Int, 0 ≤ c ∧ c ≤ C ∧ MemAt w g b n f c
  gok : GOk w
  wf : Wf n f
  lo : H ≤ g ∧ H ≤ b ∧ 6 ≤ H
  n1 : n ≤ 4096
  pt : Pt w P B A ca s
  ap : (H ≤ P ∧ H ≤ B) ∧ (g ≠ B ∧ b ≠ B ∧ g ≠ P ∧ b ≠ P ∧ B ≠ P) ∧ ∃ G, A = some ⟨G, 0, none⟩ ∧ G ≠ g ∧ G ≠ b ∧ G ≠ B ∧ G < w.heap.size
  p1 : Put1 at' sz m tick k s f
section
variable {H : Nat} {w w' : World} {g b n sz P B ca at' C k : Nat} {A : Option Addr} {m : ByteArray} {tick : Int} {s : Wr} {f : Nat → Int}
theorem mp_of (hM : MemAt w g b n (fun _ => 0) 0) (hW : WriterAt w B 0 A ca (putS at' sz m tick)) (hP : PutAt w P B) (hA : ∃ G, A = some ⟨G, 0, none⟩ ∧ g < G ∧ b < G ∧ G < B) (hG : GOk w) (hm : m.size ≤ 32) (ht : 0 ≤ tick ∧ tick < 4294967296) (h6 : 6 ≤ H) (h1 : H ≤ g ∧ H ≤ b ∧ B < P) (hn : n ≤ 4096) (hM2 : at' + (2 + need sz) < n) :
    Mp H w g b n P B ca A at' sz m tick 0 0 (putS at' sz m tick) (fun _ => 0) := by
  obtain ⟨G, rfl, g1, g2, g3⟩ := hA
  have hB := hW.k.lt
  exact ⟨⟨0, Int.le_refl _, Int.le_refl _, hM⟩, hG, fun _ _ => by show (0 : Int) ≤ 0 ∧ (0 : Int) < 4294967296; omega, by omega, hn, ⟨hW, hP, put_vf hm ht⟩, ⟨by omega, by omega, G, rfl, by omega, by omega, by omega, by omega⟩, put1_0 hM2⟩
theorem Mp.hs (h : Mp H w g b n P B ca A at' sz m tick C k s f) : H ≤ w.heap.size := by
  have := h.pt.pt.lt; have := h.ap.1; omega
theorem Mp.keepB (h : Mp H w g b n P B ca A at' sz m tick C k s f) (hB : Below w.heap.size w w') : Mp H w' g b n P B ca A at' sz m tick C k s f := by
  obtain ⟨c, c0, c1, hm⟩ := h.mem
  obtain ⟨l1, ne, G, hA, g1, g2, g3, g4⟩ := h.ap
  exact ⟨⟨c, c0, c1, hm.keep hB⟩, h.gok.keep hB, h.wf, h.lo, h.n1, h.pt.keep hB, ⟨l1, ne, G, hA, g1, g2, g3, by have := hB.size; omega⟩, h.p1⟩
theorem mp_write (h : Mp H w g b n P B ca A at' sz m tick C k s f) (hC : C ≤ 1000000) (hM : at' + (2 + need sz) < n) (hk : k < 2 + need sz + 2) (d : Bool) (hd : decide (k + 1 = 2 + need sz + 2) = d) :
    Calls Tryd.prog 16 #[.pointer (some ⟨B, 0, none⟩), .pointer (some ⟨g, 0, none⟩)] w fun e w' => e = .returned (.bool d) ∧ Mp H w' g b n P B ca A at' sz m tick (C + 1) (k + 1) (s.step n) (s.word n f) ∧ Below H w w' := by
  obtain ⟨h1, h2⟩ := h.p1.step hM hk
  obtain ⟨c, c0, c1, hm⟩ := h.mem
  obtain ⟨l1, ne, G, rfl, g1, g2, g3, g4⟩ := h.ap
  subst hd
  refine (writer_step B g b n _ ca s f c w h.pt.wr ne.1 ne.2.1 (fun x o e hs => ?_) h.gok hm h.n1 (by omega)).mono ?_
  · injection e with e
    injection e with e1 _
    rcases hs with h' | h' | h' <;> omega
  · rintro e w' ⟨he, ⟨c', q1, q2, hm'⟩, hw, hC'⟩
    have hlo : ∀ k, ST g b B k → H ≤ k := fun k hk => by
      have := h.lo
      rcases hk with rfl | rfl | rfl <;> omega
    refine ⟨by rw [he, h2], ⟨⟨c', by omega, by omega, hm'⟩, hC'.six (fun k hk => by have := hlo k hk; have := h.lo; omega) h.gok, wr_wf h.pt.wr h.wf h.pt.vf, h.lo, h.n1, ⟨hw, h.pt.pt.chg hC' (fun hk => ?_), ?_⟩, ⟨l1, ne, G, rfl, g1, g2, g3, by have := hC'.size; omega⟩, h1⟩, hC'.below hlo h.hs⟩
    · rcases hk with e | e | e <;> omega
    · rw [Wr.step_L, Wr.step_V, Wr.step_n]; exact h.pt.vf
/-- A get behind it. -/
theorem Mp.get {R K : Nat} {r : Rd} (h : Mp H w g b n P B ca A at' sz m tick C k s f) (hB : Below w.heap.size w w') (hR : ReaderAt w' R r.k.ph r) (hK : GetAt w' K R sz) (hr : ∀ j, 0 ≤ r.ws j ∧ r.ws j < 4294967296) (h1 : w.heap.size ≤ R ∧ R < K) :
    Pl H w' g b n K R sz P B ca A at' m tick C k s f r := by
  obtain ⟨c, c0, c1, hm⟩ := h.mem
  obtain ⟨l1, ne, G, rfl, g1, g2, g3, g4⟩ := h.ap
  have e1 := hm.ltg
  have e2 := hm.row.lt
  have e3 := h.pt.pt.lt
  have e4 := h.pt.wr.k.lt
  have e5 := h.lo
  refine ⟨⟨⟨c, c0, c1, hm.keep hB⟩, hR, hK, h.gok.keep hB, h.wf, hr, by omega, by omega, h.n1⟩, h.pt.keep hB, ⟨l1, by omega, fun x o e => ?_⟩, h.p1⟩
  injection e with e
  injection e with e1 _
  omega
end
end Go.Proofs.YtggpljhlfhhcaaaDoor
