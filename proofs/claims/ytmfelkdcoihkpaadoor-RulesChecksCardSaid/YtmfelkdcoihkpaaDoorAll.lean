/-
  all: a plan's windows with their places, core by core, in a list of its own.
-/
import Derived.Test.YtmfelkdcoihkpaaDoorRefW
import Derived.Test.YtmfelkdcoihkpaaDoorBeside
import Derived.Laws.AppendOwn
namespace Go.Proofs.YtmfelkdcoihkpaaDoor
open Go.RowKit

theorem flat_get {α : Type} (f : α → List Value) (C : Nat) (d : α) (l : List α) (hl : ∀ x ∈ l, (f x).length = C) (i j : Nat) (hi : i < l.length) (hj : j < C) : (l.flatMap f)[i * C + j]? = (f (l.getD i d))[j]? := by
  induction l generalizing i with
  | nil => simp at hi
  | cons x r ih =>
    have hx := hl x List.mem_cons_self
    cases i with
    | zero =>
      rw [List.flatMap_cons, List.getElem?_append_left (by omega)]
      simp
    | succ i =>
      rw [List.flatMap_cons, List.getElem?_append_right (by rw [hx]; simp [Nat.succ_mul]; omega), hx, show (i + 1) * C + j - C = i * C + j by rw [Nat.succ_mul]; omega]
      rw [ih (fun y hy => hl y (List.mem_cons_of_mem _ hy)) i (by simpa using hi)]
      simp
theorem add_lit (g j : Nat) : (⟨g, 0, none⟩ : Addr).add j = ⟨g, j, none⟩ := by cases j <;> simp [Addr.add]
theorem arr_own {w : World} {base E C n c : Nat} {A : Option Addr} {xs : List Value} (h : w.ownsRow base E C (.slice A n c) n xs) (F : Nat → List Value) (hF : ∀ i j u, i < n → (F i)[j]? = some u → xs[i * C + j]? = some u) : Arr w A C n F := fun i hi => by
  rcases h.2 with ⟨e, hn⟩ | ⟨g, cap, cur, e, _, hg, _⟩
  · omega
  · injection e with e1 e2 e3
    subst e1
    refine ⟨g, 0, rfl, fun j u hu => ?_⟩
    have := World.ownsRow.cells h (g := g) rfl (i * C + j) u (hF i j u hi hu)
    rw [add_lit] at this
    rw [Nat.add_assoc, Nat.zero_add]
    exact this
theorem arr_flat {α : Type} {w : World} {base E C c : Nat} {A : Option Addr} {l : List α} {f : α → List Value} {d : α} (h : w.ownsRow base E C (.slice A l.length c) l.length (l.flatMap f)) (hf : ∀ x, (f x).length = C) : Arr w A C l.length fun i => f (l.getD i d) :=
  arr_own h _ fun i j u hi hu => by
    have hj : j < C := by
      have := (List.getElem?_eq_some_iff.1 hu).1
      rw [hf] at this
      exact this
    rw [flat_get f C d l (fun x _ => hf x) i j hi hj]
    exact hu
/-- A list of a call's own is a slice. -/
theorem own_form {w : World} {base E C n : Nat} {v : Value} {xs : List Value} (h : w.ownsRow base E C v n xs) : ∃ A c, v = .slice A n c := by
  rcases h.2 with ⟨e, hn⟩ | ⟨g, cap, cur, e, _, _, _⟩
  · subst hn; exact ⟨_, _, e⟩
  · exact ⟨_, _, e⟩

/-- The windows' places of the first c cores. -/
def placesTo (cs : List (List WinA)) (c : Nat) : List (Nat × Nat) := (List.range c).flatMap fun c => (List.range (cs.getD c []).length).map fun i => (c, i)
theorem placesTo_all (cs : List (List WinA)) : placesTo cs cs.length = places cs := rfl
theorem placesTo_succ (cs : List (List WinA)) (c : Nat) : placesTo cs (c + 1) = placesTo cs c ++ (List.range (cs.getD c []).length).map fun i => (c, i) := by
  unfold placesTo
  rw [List.range_succ, List.flatMap_append]
  simp
theorem placesTo_len {cs : List (List WinA)} (h : ∀ ws ∈ cs, ws.length ≤ 256) (c : Nat) (hc : c ≤ cs.length) : (placesTo cs c).length ≤ 256 * c := by
  induction c with
  | zero => simp [placesTo]
  | succ c ih =>
    rw [placesTo_succ, List.length_append, List.length_map, List.length_range]
    have h1 := ih (by omega)
    have h2 := h _ (getD_mem [] (by omega : c < cs.length))
    omega
/-- A window with its place, in cells. -/
def plV (cs : List (List WinA)) (x : Nat × Nat) : List Value := [.int .i64 x.1, .int .i64 (256 * (x.1 : Int) + x.2)] ++ winV (winAt cs x.1 x.2)
def OwnPl (w : World) (base : Nat) (cs : List (List WinA)) (v : Value) (l : List (Nat × Nat)) : Prop := w.ownsRow base 71 6 v l.length (l.flatMap (plV cs))
theorem info71 : (Tryd.prog.info? 71).map (fun i => (i.zero, i.size, i.bytes)) = some (some (.agg #[.int .i64 0, .int .i64 0, .int .u16 0, .int .u16 0, .int .u8 0, .int .u8 0]), 6, 24) := by kernel_rfl

def AOut (w : World) (cs : List (List WinA)) (v i : Value) (wr : World) : Prop :=
  ∃ c : Nat, c ≤ cs.length ∧ i = .int .i64 c ∧ OwnPl wr w.heap.size cs v (placesTo cs c) ∧ Below w.heap.size w wr
def AIn (w : World) (cs : List (List WinA)) (c m : Nat) (v i : Value) (wr : World) : Prop :=
  ∃ k : Nat, k ≤ m ∧ i = .int .i64 k ∧ OwnPl wr w.heap.size cs v (placesTo cs c ++ (List.range k).map fun i => (c, i)) ∧ Below w.heap.size w wr
def AllPost (cs : List (List WinA)) (w : World) (e : Ending) (w' : World) : Prop :=
  ∃ A cap, e = .returned (.slice A (places cs).length cap) ∧ Arr w' A 6 (places cs).length (fun j => plV cs ((places cs).getD j (0, 0))) ∧ Below w.heap.size w w'

set_option maxHeartbeats 1000000 in
set_option maxRecDepth 100000 in
theorem all_any (P : PlanA) (L : PlanL) (w : World) (hP : PlanAt w P L) (h8 : P.2.1.length ≤ 8) (h256 : ∀ ws ∈ P.2.1, ws.length ≤ 256) :
    Calls Tryd.prog 24 #[planV P L] w fun e w' => AllPost P.2.1 w e w' := by
  obtain ⟨i0, hi, hz0, hz1, hz2⟩ := info_parts info71
  obtain ⟨fr, cs, ps, hs, rs⟩ := P
  obtain ⟨A1, c1, A2, c2, A3, c3, A4, c4⟩ := L
  obtain ⟨g1, -, -, -⟩ := hP
  simp only [planV] at *
  obtain ⟨n, hn⟩ : ∃ n, n = cs.length := ⟨_, rfl⟩
  rw [← hn] at h8 ⊢
  obtain ⟨w0, hw0⟩ : ∃ w0, w0 = w.alloc (.cells #[.int .u16 fr, .slice A1 n c1, .slice A2 ps.length c2, .slice A3 hs.length c3, .slice A4 rs.length c4] 28) := ⟨_, rfl⟩
  have hs0 : w0.heap.size = w.heap.size + 1 := by rw [hw0]; simp
  have hb0 : Below w.heap.size w w0 := by rw [hw0]; exact (Below.refl _ _).alloc (Nat.le_refl _) _
  have hc1 : w0.cell? ⟨w.heap.size, 1, none⟩ = some (.slice A1 n c1) := by rw [hw0]; simp
  have G1 := Lib.hid g1
  have H256 := Lib.hid h256
  have HS0 := Lib.hid hs0
  have HB0 := Lib.hid hb0
  have HC1 := Lib.hid hc1
  have HN := Lib.hid hn
  have HI := Lib.hid hi
  have HZ0 := Lib.hid hz0
  have HZ1 := Lib.hid hz1
  have HZ2 := Lib.hid hz2
  clear g1 h256 hb0 hc1 hn hi hz0 hz1 hz2 hs0
  go_enter Tryd.func24, Tryd.ntmps24
  go_wp2_with fail
  rw [← hw0]
  have HW0 := Lib.hid hw0
  clear hw0
  go_loopw [3, 4] (fun v i wr => AOut w0 cs v i wr) (fun _ i _ => n - (intOf i).toNat)
  case atStart => exact ⟨0, Nat.zero_le _, rfl, by rw [← HS0.out]; exact World.ownsRow_lit w0 #[] 0 (Nat.le_refl _) (by decide) rfl, (Below.refl _ _).alloc (Nat.le_refl _) _⟩
  case round =>
    obtain ⟨c, hc, rfl, hO, hB⟩ := hrel
    rw [← HN.out] at hc
    have HB := Lib.hid hB
    have HO := Lib.hid hO
    have k1 := kept HC1.out hB
    by_cases hlt : c < n
    · have hlw : c < cs.length := by rw [← HN.out]; exact hlt
      obtain ⟨Pf, q1, q2⟩ := G1.out
      obtain ⟨b1, o1, rfl⟩ := Arr.head q1 hlw
      have hcc := Lib.hid (fun (W : World) (h : Below w0.heap.size w0 W) => kept (kept (Arr.at (j := 0) q1 hlw rfl) HB0.out) h)
      obtain ⟨ws, hws⟩ : ∃ ws, ws = cs.getD c [] := ⟨_, rfl⟩
      obtain ⟨hh, -⟩ := q2 c hlw
      obtain ⟨⟨A5, c5⟩, hP5⟩ : ∃ p, p = Pf c := ⟨_, rfl⟩
      have hl := H256.out _ (getD_mem [] hlw)
      obtain ⟨m, hm⟩ : ∃ m, m = ws.length := ⟨_, rfl⟩
      rw [← hws] at hl hh
      rw [← hm] at hl
      rw [← hP5] at hh hcc
      simp only [slV, ← hws, ← hm, Nat.mul_one, Nat.add_zero] at hcc
      have HH := Lib.hid (Arr.keep hh HB0.out)
      have HWS := Lib.hid hws
      have HM := Lib.hid hm
      have hstep : placesTo cs (c + 1) = placesTo cs c ++ (List.range m).map fun i => (c, i) := by rw [placesTo_succ, hm, hws]
      have HST := Lib.hid hstep
      have hpl := placesTo_len H256.out c (by rw [← HN.out]; exact hc)
      clear q1 q2 hws hm hP5 hh hB hO hstep
      go_wp2_with fail
      clear k1
      go_loopw [3, 5] (fun v i wr => AIn w0 cs c m v i wr) (fun _ i _ => m - (intOf i).toNat)
      case atStart => exact ⟨0, Nat.zero_le _, rfl, by simpa using HO.out, HB.out⟩
      case round =>
        obtain ⟨k, hk, rfl, hO2, hB2⟩ := hrel
        have HB2 := Lib.hid hB2
        have k1 := kept HC1.out hB2
        have cc := hcc.out _ hB2
        have hsz := hB2.size
        by_cases hlt2 : k < m
        · have hlw2 : k < ws.length := by rw [← HM.out]; exact hlt2
          obtain ⟨b2, o2, rfl⟩ := Arr.head HH.out hlw2
          have d0 := kept (Arr.at (j := 0) HH.out hlw2 rfl) hB2
          have d1 := kept (Arr.at (j := 1) HH.out hlw2 rfl) hB2
          have d2 := kept (Arr.at (j := 2) HH.out hlw2 rfl) hB2
          have d3 := kept (Arr.at (j := 3) HH.out hlw2 rfl) hB2
          have hwa : ws.getD k dW = winAt cs c k := by unfold winAt; rw [HWS.out]
          rw [hwa] at d0 d1 d2 d3
          obtain ⟨⟨x0, x1, x2, x3⟩, hx⟩ : ∃ x, x = winAt cs c k := ⟨_, rfl⟩
          simp only [← hx, Nat.add_zero] at d0 d1 d2 d3
          have HX := Lib.hid hx
          have hlen : (placesTo cs c ++ (List.range k).map fun i => (c, i)).length ≤ 2304 := by simp; omega
          have hO3 : wr.ownsRow w0.heap.size 71 6 u3 _ _ := hO2
          obtain ⟨N, hN⟩ : ∃ N, N = (placesTo cs c ++ (List.range k).map fun i => (c, i)).length := ⟨_, rfl⟩
          obtain ⟨xs, hxs⟩ : ∃ xs, xs = (placesTo cs c ++ (List.range k).map fun i => (c, i)).flatMap (plV cs) := ⟨_, rfl⟩
          rw [← hN, ← hxs] at hO3
          rw [← hN] at hlen
          have hown := hO3
          have HNN := Lib.hid hN
          have HXS := Lib.hid hxs
          have hmul : IntKind.i64.wrap (256 * (c : Int)) = 256 * (c : Int) := IntWalk.i64_in _ (by omega)
          have hadd : IntKind.i64.wrap (256 * (c : Int) + (k : Int)) = 256 * (c : Int) + (k : Int) := IntWalk.i64_in _ (by omega)
          have hi := HI.out
          have hz0 := HZ0.out
          have hz1 := HZ1.out
          have hz2 := HZ2.out
          have hbase : w0.heap.size ≤ wr.heap.size + 1 := by omega
          clear hx hO2 hO3 hB2 hlw2 hpl hN hxs
          go_wp2_with (at_builtin; (refine wpList_append_own _ rfl _ _ 68 rfl w0.heap.size 71 i0 (.agg #[.int .i64 0, .int .i64 0, .int .u16 0, .int .u16 0, .int .u8 0, .int .u8 0]) 6 24 Tryd.underlying68 hi hz0 hz1 hz2 rfl (by decide) _ N xs rfl (hown.alloc _) ⟨wr.heap.size, 0, none⟩ 1 1 [.int .i64 (c : Int), .int .i64 (256 * (c : Int) + (k : Int)), .int .u16 x0, .int .u16 x1, .int .u8 x2, .int .u8 x3] rfl rfl ?c1 ?c2 ?c3 ?c4 ?c5 ?_))
          case c1 =>
            intro j u hj
            rw [add_lit]
            match j, hj with
            | 0, hj => simp at hj; subst hj; simp
            | 1, hj => simp at hj; subst hj; simp
            | 2, hj => simp at hj; subst hj; simp
            | 3, hj => simp at hj; subst hj; simp
            | 4, hj => simp at hj; subst hj; simp
            | 5, hj => simp at hj; subst hj; simp
          case c2 => intro u hu; simp at hu; rcases hu with rfl | rfl | rfl | rfl | rfl | rfl <;> rfl
          case c3 => unfold maxLen; omega
          case c4 => omega
          case c5 => simpa using hbase
          intro v' w1 hown' hgrow _
          have hO' : OwnPl w1 w0.heap.size cs v' (placesTo cs c ++ (List.range (k + 1)).map fun i => (c, i)) := by
            unfold OwnPl
            rw [HNN.out, HXS.out] at hown'
            rw [List.range_succ, List.map_append, ← List.append_assoc, List.flatMap_append, List.length_append]
            simpa [plV, winV, ← HX.out] using hown'
          have HO' := Lib.hid hO'
          have HB' := Lib.hid ((HB2.out.alloc hsz _).grown hgrow (by simp; omega) (fun k hk => (hown.lt k hk).1))
          clear hown' hgrow hown hO'
          go_wp2_with fail
          go_roundw
          case rel => exact ⟨k + 1, hlt2, by go_num, HO'.out, HB'.out⟩
          case measure => simp [intOf]; omega
        · obtain rfl : k = m := by omega
          rw [← HST.out] at hO2
          have HO2 := Lib.hid hO2
          clear hO2 hB2
          go_wp2_with fail
          go_roundw
          case rel => exact ⟨c + 1, by rw [← HN.out]; omega, by go_num, HO2.out, HB2.out⟩
          case measure => simp [intOf]; omega
    · obtain rfl : c = n := by omega
      have hO := HO.out
      rw [HN.out, placesTo_all] at hO
      clear HO
      obtain ⟨A, cap, rfl⟩ := own_form hO
      have HO := Lib.hid hO
      clear hO hB
      go_wp2_with fail
      go_ret
      exact ⟨A, cap, rfl, arr_flat HO.out (fun _ => rfl), below_two HB0.out (HB.out.mono (Nat.le_refl _))⟩
end Go.Proofs.YtmfelkdcoihkpaaDoor
