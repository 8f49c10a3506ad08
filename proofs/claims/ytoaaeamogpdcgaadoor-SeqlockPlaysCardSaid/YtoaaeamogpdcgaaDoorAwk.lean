/-
  A new memory, a new writer, a new reader; the chapter's example holds.
-/
import Derived.Test.YtoaaeamogpdcgaaDoorSq
namespace Go.Proofs.YtoaaeamogpdcgaaDoor
open Go.RowKit

theorem six_of {w : World} (h : GOk w) : 6 ≤ w.heap.size := (h 5 (by decide)).lt
theorem flat_wf {n L : Nat} {F : Nat → Ver} (h1 : 1 ≤ n) (h : ∀ i, i < L → Wf n (F i).v) : Wf (L * n) (flatV n F) := fun q hq => by
  unfold flatV
  have h2 : q / n < L := Nat.div_lt_of_lt_mul (by rw [Nat.mul_comm]; exact hq)
  exact h _ h2 _ (Nat.mod_lt _ h1)
/-- Memory, writer and reader, made one behind the other. -/
theorem sq_of {H : Nat} {w : World} {g b n B G cap R : Nat} {f : Nat → Int} {s : Wr} {r : Rd} (hM : MemAt w g b n f 0) (hW : WriterAt w B s.k.ph (some ⟨G, 0, none⟩) cap s) (hR : ReaderAt w R r.k.ph r) (hG : GOk w) (hf : Wf n f) (hV : Wf (s.L * s.k.n) s.V)
    (h6 : 6 ≤ H) (h1 : H ≤ g ∧ H ≤ b ∧ g < G ∧ b < G ∧ G < B ∧ B < R) (hn : n ≤ 4096) : Sq H w ⟨g, b, n, B, R, some ⟨G, 0, none⟩, cap⟩ f 0 s r :=
  ⟨⟨0, Int.le_refl _, Int.le_refl _, hM⟩, hW, hR, hG, hf, hV, ⟨h1.1, h1.2.1, by show H ≤ B; omega, by show H ≤ R; omega, h6⟩, ⟨by show g ≠ B; omega, by show b ≠ B; omega, by show g ≠ R; omega, by show b ≠ R; omega, by show B ≠ R; omega⟩,
   fun x o e => by
    injection e with e; injection e with e1 e2
    subst e1
    show G ≠ g ∧ G ≠ b ∧ G ≠ B ∧ G ≠ R
    omega, hn⟩
theorem new_one (n : Nat) (h1 : 1 ≤ n) (h2 : n ≤ 4096) (x : Int) (hx : x = n) (w : World) :
    Calls Tryd.prog 8 #[.int .i64 x] w fun e w' => ∃ g b, e = .returned (.tuple #[.pointer (some ⟨g, 0, none⟩), .int .i64 0]) ∧ MemAt w' g b n (fun _ => 0) 0 ∧ w.heap.size ≤ g ∧ w.heap.size ≤ b ∧ Below w.heap.size w w' := by
  subst hx; exact new_yes n w h1 h2
/-- The words of the chapter's version. -/
def exV (j : Nat) : Int := ([1, 2] : List Int).getD j 0
def exF (p : Option Addr) : Nat → Ver := fun _ => ⟨p, 2, 2, exV⟩
theorem ex_vers (w : World) (o1 o2 : Obj) (h1 : o1 = .cells #[.int .u32 1, .int .u32 2] 22) (h2 : o2 = .cells #[.slice (some ⟨w.heap.size, 0, none⟩) 2 2] 37) :
    VersN ((w.alloc o1).alloc o2).heap.size ((w.alloc o1).alloc o2) (some ⟨w.heap.size + 1, 0, none⟩) 1 (exF (some ⟨w.heap.size, 0, none⟩)) := fun i hi => by
  subst h1 h2
  obtain rfl : i = 0 := by omega
  refine ⟨_, _, rfl, by simp, al_new _ _ _ _ _ (by simp) rfl, fun j hj => ⟨_, _, rfl, by simp; omega, ?_⟩⟩
  have hj : j < 2 := hj
  refine al_cell ?_
  match j, hj with
  | 0, _ => exact al_new _ _ _ _ _ rfl rfl
  | 1, _ => exact al_new _ _ _ _ _ rfl rfl
def exS : Wr := wr0 0 2 1 (flatV 2 (exF none))
theorem ex_flat (p : Option Addr) : flatV 2 (exF p) = flatV 2 (exF none) := rfl
def exf0 : Nat → Int := upd (upd (fun _ => 0) 1 7) 2 8
def exs (k : Nat) : Wr := Nat.rec exS (fun _ s => s.step 3) k
def exf (k : Nat) : Nat → Int := Nat.rec exf0 (fun k f => (exs k).word 3 f) k
def exr0 : Rd := rd0 0 2
def exr1 : Rd := exr0.step 3 (exf 2)
def exr (k : Nat) : Rd := Nat.rec exr1 (fun _ r => r.step 3 (exf 4)) k
theorem ex1 : decide (3 ≤ (exs 1).k.ph) = false := by decide
theorem ex2 : decide (3 ≤ (exs 2).k.ph) = false := by decide
theorem ex3 : decide (3 ≤ (exs 3).k.ph) = false := by decide
theorem ex4 : decide (3 ≤ (exs 4).k.ph) = true := by decide
theorem er1 : decide (3 ≤ exr1.k.ph) = false := by decide
theorem er2 : decide (3 ≤ (exr 1).k.ph) = false := by decide
theorem er3 : decide (3 ≤ (exr 2).k.ph) = false := by decide
theorem er4 : decide (3 ≤ (exr 3).k.ph) = false := by decide
theorem er5 : decide (3 ≤ (exr 4).k.ph) = true := by decide
theorem ert : exr1.tr = 0 ∧ (exr 4).tr = 1 ∧ (exs 2).wr = 0 ∧ (exs 4).wr = 1 ∧ (exr 3).k.ph ≠ 3 ∧ (exr 4).k.ph = 3 ∧ (exr 4).k.n = 2 ∧ (exr 4).ws 0 = 1 ∧ (exr 4).ws 1 = 2 := by decide
end Go.Proofs.YtoaaeamogpdcgaaDoor
