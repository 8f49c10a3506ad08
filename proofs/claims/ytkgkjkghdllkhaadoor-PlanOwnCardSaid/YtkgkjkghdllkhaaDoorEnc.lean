/-
  plan.Encode: a plan's bytes in memory of the call's own, or a failure.
-/
import Derived.Test.YtkgkjkghdllkhaaDoorFits
import Derived.Test.YtkgkjkghdllkhaaDoorPutB
import Derived.Deep.AppendLies
import Derived.Stop.IfaceNil
import Derived.ArgAppend
import Derived.Lib.SlBytesConst
namespace Go.Proofs.YtkgkjkghdllkhaaDoor
open Go.RowKit

/-- All lists are short enough. -/
def Small (P : PlanA) : Prop := (enc P).length ≤ 1000000
theorem lens_le {P : PlanA} (h : Small P) : P.2.1.length ≤ 1000000 ∧ P.2.2.1.length ≤ 1000000 ∧ P.2.2.2.1.length ≤ 1000000 ∧ P.2.2.2.2.length ≤ 1000000 ∧
    (∀ ws ∈ P.2.1, (encCore ws).length ≤ 1000000 ∧ ws.length ≤ 1000000) ∧ (∀ q ∈ P.2.2.1, q.1.length ≤ 1000000 ∧ q.2.2.1.length ≤ 1000000) := by
  have len_le : ∀ {α : Type} (e : α → List Int) (l : List α), (∀ x, 1 ≤ (e x).length) → l.length ≤ (l.flatMap e).length := by
    intro α e l he
    induction l with
    | nil => simp
    | cons x r ih => have := he x; simp only [List.flatMap_cons, List.length_append, List.length_cons]; omega
  unfold Small enc at h
  simp only [List.length_append] at h
  have a1 := len_le encCore P.2.1 (fun x => by simp [encCore, two])
  have a2 := len_le encPart P.2.2.1 (fun x => by simp [encPart])
  have a3 := len_le encChan P.2.2.2.1 (fun x => by simp [encChan])
  have a4 := len_le encPair P.2.2.2.2 (fun x => by simp [encPair])
  refine ⟨by omega, by omega, by omega, by omega, fun ws hw => ?_, fun q hq => ?_⟩
  · have h1 := mem_flat_le encCore hw
    have h2 := len_le encWin ws (fun x => by simp [encWin, two])
    have h3 : (encCore ws).length = 2 + (ws.flatMap encWin).length := by simp only [encCore, two, List.length_append, List.length_cons, List.length_nil]
    omega
  · have h1 := mem_flat_le encPart hq
    have h2 := len_le encSem q.1 (fun x => by simp [encSem])
    have h3 : (encPart q).length = 1 + (q.1.flatMap encSem).length + 2 + q.2.2.1.length + 3 := by simp only [encPart, List.length_append, List.length_cons, List.length_nil]
    omega

theorem box5 {w : World} {h t : Nat} {a b c d e : Value} (hr : w.heap[h]? = some (.cells #[a, b, c, d, e] t (0, 0))) :
    w.cell? ⟨h, 0, none⟩ = some a ∧ w.cell? ⟨h, 1, none⟩ = some b ∧ w.cell? ⟨h, 2, none⟩ = some c ∧ w.cell? ⟨h, 3, none⟩ = some d ∧ w.cell? ⟨h, 4, none⟩ = some e :=
  ⟨by rw [cell_of_row w h 0 _ t (0, 0) hr]; rfl, by rw [cell_of_row w h 1 _ t (0, 0) hr]; rfl, by rw [cell_of_row w h 2 _ t (0, 0) hr]; rfl, by rw [cell_of_row w h 3 _ t (0, 0) hr]; rfl, by rw [cell_of_row w h 4 _ t (0, 0) hr]; rfl⟩

/-- Encode refuses. -/
def EncBad (P : PlanA) (w : World) (e : Ending) (w' : World) : Prop :=
  ∃ f, e = .returned (.tuple #[.slice none 0 0, .iface 71 (.pointer (some ⟨f, 0, none⟩))]) ∧ w'.cell? ⟨f, 0, none⟩ = some (.int .i64 (fitAt P)) ∧ w'.cell? ⟨f, 0 + 1, none⟩ = some (.int .i64 31) ∧ Below w.heap.size w w'

set_option maxHeartbeats 4000000 in
set_option maxRecDepth 100000 in
theorem enc_no (P : PlanA) (L : PlanL) (w : World) (hP : PlanAt w P L) (hs : Small P) (hf : fitAt P ≠ -1) :
    Calls Tryd.prog 12 #[planV P L] w fun e w' => EncBad P w e w' := by
  obtain ⟨l1, l2, l3, l4, l5, l6⟩ := lens_le hs
  have hB1 : Below w.heap.size w (w.alloc (.cells #[.int .u16 P.1, .slice L.a1 P.2.1.length L.c1, .slice L.a2 P.2.2.1.length L.c2, .slice L.a3 P.2.2.2.1.length L.c3, .slice L.a4 P.2.2.2.2.length L.c4] 28)) := (Below.refl _ _).alloc (Nat.le_refl _) _
  have HFT := Lib.hid (fits_any P L _ (hP.keep hB1) l1 l2 l3 l4 (fun ws hw => (l5 ws hw).2) l6)
  have HB1 := Lib.hid hB1
  have HF := Lib.hid hf
  have hni := fun x W => run_neq_iface_nil (P := Tryd.prog) W 33 (by kernel_rfl) 71 x
  clear hP hs hf hB1 l1 l2 l3 l4 l5 l6
  simp only [planV] at HFT ⊢
  go_enter Tryd.func12, Tryd.ntmps12
  go_wp2_with fail
  refine HFT.out.mono ?_
  rintro e w1 (⟨h, _⟩ | ⟨_, f, rfl, k0, k1, hb⟩)
  · exact absurd h HF.out
  · have HK0 := Lib.hid k0
    have HK1 := Lib.hid k1
    have HB := Lib.hid (HB1.out.trans (hb.mono HB1.out.size))
    clear k0 k1 hb
    go_wp2_with fail
    go_ret2
    exact ⟨f, rfl, HK0.out, HK1.out, HB.out⟩

theorem Own.base {w : World} {base base' : Nat} {v : Value} {l : List Int} (h : Own w base v l) (hb : base' ≤ base) : Own w base' v l := by
  refine ⟨h.1, ?_⟩
  rcases h.2 with h | ⟨g, cap, cur, a, b, r⟩
  · exact .inl h
  · exact .inr ⟨g, cap, cur, a, Nat.le_trans hb b, r⟩

set_option maxHeartbeats 1000000 in
set_option maxRecDepth 100000 in
/-- putTwo behind bytes without room. -/
theorem putTwo_full (A : Addr) (l : List Int) (n : Int) (w : World) (hA : ∀ j u, (l.map bV)[j]? = some u → w.cell? (A.add j) = some u) (h0 : 0 ≤ n) (h1 : n ≤ 65535) (hl0 : 0 < l.length) (hl : l.length ≤ 1000000000) :
    Calls Tryd.prog 22 #[.slice (some A) l.length l.length, .int .u16 n] w fun e w' => ∃ v', e = .returned v' ∧ Own w' w.heap.size v' (l ++ two n) ∧ Below w.heap.size w w' := by
  obtain ⟨i0, hi, hz0, hz1, hz2⟩ := info_parts info5
  have HA := Lib.hid hA
  clear hA
  go_enter Tryd.func22, Tryd.ntmps22
  go_wp2_with fail
  refine (two_nil n w h0 (by omega)).mono ?_
  rintro e w1 ⟨v1, rfl, hO1, hv1, hB⟩
  rcases hO1.2 with ⟨hn, _⟩ | ⟨h, c, cur, rfl, _, _, _⟩
  · exact absurd hn hv1
  have c0 : ∀ j u, ([.int .u8 (n / 256), .int .u8 (n % 256)] : List Value)[j]? = some u → w1.cell? ((⟨h, 0, none⟩ : Addr).add j) = some u := World.ownsRow.cells hO1 (g := h) rfl
  have cA : ∀ b, some A = some b → ∀ j u, (l.map bV)[j]? = some u → w1.cell? (b.add j) = some u := fun b e j u hu => by
    injection e with e
    subst e
    have := HA.out j u hu
    rw [hB.cell (cell_lt' this)]
    exact this
  have HCA := Lib.hid cA
  have HC := Lib.hid c0
  have HB := Lib.hid hB
  have hs := hB.size
  clear hO1 hv1 hB c0 cA
  go_wp2_with (at_builtin; refine wpList_append_grows _ rfl _ _ 31 rfl 5 i0 (.int .u8 0) 1 1 Tryd.underlying31 hi hz0 hz1 hz2 rfl (by decide) (some A) l.length l.length (l.map bV) rfl (fun e => by cases e) (by simp) HCA.out ⟨h, 0, none⟩ 2 c [.int .u8 (n / 256), .int .u8 (n % 256)] rfl rfl HC.out ?d2 (by omega) ?d3 ?d4 ?_)
  case d2 => intro u hu; simp at hu; rcases hu with rfl | rfl <;> rfl
  case d3 => unfold maxLen; omega
  case d4 => omega
  intro v3 w3 hown3 hg3
  have HO3 : Hid (Own w3 w1.heap.size v3 (l ++ two n)) := by
    show w3.ownsRow _ _ _ _ _ _
    simpa [two, bV] using hown3
  have HG : Hid (Below w.heap.size w w3) := HB.out.grown hg3 hs (fun k hk => by cases hk)
  clear hown3 hg3
  go_wp2_with fail
  go_ret
  exact ⟨_, rfl, HO3.out.base hs, HG.out⟩

theorem news_lit {w : World} {C : Array Value} {l : List Int} (h : C.toList = l.map bV) (t : TypeId) : ∀ j u, (l.map bV)[j]? = some u → (w.alloc (.cells C t)).cell? ((⟨w.heap.size, 0, none⟩ : Addr).add j) = some u := fun j u hu => by
  rw [add_lit, Nat.zero_add, World.cell?_alloc_at _ _ _ _ rfl, ← Array.getElem?_toList, h]
  exact hu
theorem row_drew {w : World} {g : Nat} {o : Obj} (h : w.heap[g]? = some o) : w.drew.heap[g]? = some o := h
theorem news_drew {w : World} {C : Array Value} {l : List Int} (h : C.toList = l.map bV) (t g : Nat) (hg : g = w.heap.size) : ∀ j u, (l.map bV)[j]? = some u → (w.alloc (.cells C t)).drew.cell? ((⟨g, 0, none⟩ : Addr).add j) = some u := by
  subst hg
  exact fun j u hu => (news_lit h t j u hu)
theorem box6' {w : World} {h t : Nat} {a b c d e f : Value} (hr : w.heap[h]? = some (.cells #[a, b, c, d, e, f] t (0, 0))) :
    w.heap[h]? = some (.cells #[a, b, c, d, e, f] t (0, 0)) ∧ w.cell? ⟨h, 0, none⟩ = some a ∧ w.cell? ⟨h, 1, none⟩ = some b ∧ w.cell? ⟨h, 2, none⟩ = some c ∧ w.cell? ⟨h, 3, none⟩ = some d ∧ w.cell? ⟨h, 4, none⟩ = some e ∧ w.cell? ⟨h, 5, none⟩ = some f :=
  ⟨hr, (box6 hr).2⟩
/-- append, met in a region that draws its order. -/
theorem step_put {w : World} {ops : Array Oper} {o : Oper} {a : Act} {K : Act → World → Prop} {Q : Exit → Act → World → Prop} {E : Prop} (hgd : o.guard = none) (s x : Operand)
    (ho : o.op = .call { callee := .builtin .append, args := #[s, x], argTypes := #[31, 31] }) (base : Nat) (v : Value) (l : List Int) (hs : a.eval s = v) (hown : Own w base v l)
    (ad : Addr) (m c : Nat) (news : List Int) (hx : a.eval x = .slice (some ad) m c) (hl : news.length = m) (hnews : ∀ j u, (news.map bV)[j]? = some u → w.cell? (ad.add j) = some u)
    (hm : 0 < m) (hn : l.length + m ≤ 2000000000) (hbase : base ≤ w.heap.size)
    (h : ∀ v' w', Own w' base v' (l ++ news) → w.grownBy w' v.ownBlock → K (a.put o.dst v') w') :
    if Region.wanted o (yielded ops a.tmps) = true then Oper.wp Tryd.prog o a w K Q else E := by
  obtain ⟨i0, hi, hz0, hz1, hz2⟩ := info_parts info5
  refine step_append_lies w hgd s x 31 ho base 5 i0 (.int .u8 0) 1 1 Tryd.underlying31 hi hz0 hz1 hz2 rfl (by decide) v l.length (l.map bV) hs hown ad m c (news.map bV) hx (by simpa using hl) hnews (bV_one _) hm (by unfold maxLen; omega) (by omega) hbase w.heap.size rfl ?_
  intro g cap w' h1 h2 _ _
  refine h _ w' ?_ h2
  show w'.ownsRow _ _ _ _ _ _
  rw [List.length_append, hl, List.map_append]
  exact h1
theorem ChansAt.cells {w : World} {b o : Nat} {ws : List ChanA} (h : ChansAt w (some ⟨b, o, none⟩) ws) {k : Nat} (hk : k < ws.length) {x : ChanA} (hx : x = ws.getD k dC) :
    w.cell? ⟨b, o + k * 6, none⟩ = some (.int .u8 x.1) ∧ w.cell? ⟨b, o + k * 6 + 1, none⟩ = some (.int .u8 x.2.1) ∧ w.cell? ⟨b, o + k * 6 + 2, none⟩ = some (.int .u8 x.2.2.1) ∧ w.cell? ⟨b, o + k * 6 + 3, none⟩ = some (.int .u8 x.2.2.2.1) ∧
      w.cell? ⟨b, o + k * 6 + 4, none⟩ = some (.int .u8 x.2.2.2.2.1) ∧ w.cell? ⟨b, o + k * 6 + 5, none⟩ = some (.int .u16 x.2.2.2.2.2) := by
  subst hx
  exact ⟨Arr.at h (j := 0) hk rfl, Arr.at h (j := 1) hk rfl, Arr.at h (j := 2) hk rfl, Arr.at h (j := 3) hk rfl, Arr.at h (j := 4) hk rfl, Arr.at h (j := 5) hk rfl⟩
/-- Behind k elements of a list. -/
def EncRel {α : Type} (base : Nat) (l : List Int) (e : α → List Int) (xs : List α) (wB : World) (v i : Value) (wr : World) : Prop :=
  ∃ k : Nat, k ≤ xs.length ∧ i = .int .i64 k ∧ Own wr base v (l ++ (xs.take k).flatMap e) ∧ Below base wB wr

/-- Encode lays the plan's bytes. -/
def EncOk (P : PlanA) (w : World) (e : Ending) (w' : World) : Prop :=
  ∃ v, e = .returned (.tuple #[v, .nilIface]) ∧ Own w' w.heap.size v (enc P) ∧ Below w.heap.size w w'
set_option maxHeartbeats 8000000 in
set_option maxRecDepth 100000 in
theorem enc_yes (P : PlanA) (L : PlanL) (w : World) (hP : PlanAt w P L) (hs : Small P) (hf : fitAt P = -1) (hw : WfPlan P) :
    Calls Tryd.prog 12 #[planV P L] w fun e w' => EncOk P w e w' := by
  obtain ⟨l1, l2, l3, l4, l5, l6⟩ := lens_le hs
  have hB1 : Below w.heap.size w (w.alloc (.cells #[.int .u16 P.1, .slice L.a1 P.2.1.length L.c1, .slice L.a2 P.2.2.1.length L.c2, .slice L.a3 P.2.2.2.1.length L.c3, .slice L.a4 P.2.2.2.2.length L.c4] 28)) := (Below.refl _ _).alloc (Nat.le_refl _) _
  have HFT := Lib.hid (fits_any P L _ (hP.keep hB1) l1 l2 l3 l4 (fun ws hw => (l5 ws hw).2) l6)
  have HP := Lib.hid (hP.keep hB1)
  have HB1 := Lib.hid hB1
  have HF := Lib.hid hf
  obtain ⟨f1, f2, f3, f4, f5, f6⟩ := fits_of hf
  obtain ⟨fr, cs, ps, hs', rs⟩ := P
  obtain ⟨A1, c1, A2, c2, A3, c3, A4, c4⟩ := L
  obtain ⟨w1, w2, w3, w4, w5⟩ := hw
  have F5 := Lib.hid f5
  have F6 := Lib.hid f6
  have L5 := Lib.hid l5
  have W2 := Lib.hid w2
  have W3 := Lib.hid w3
  have W4 := Lib.hid w4
  have W5 := Lib.hid w5
  have HS := Lib.hid hs
  have HW := Lib.hid hP
  clear hP hs hf hB1 l5 l6 f5 f6 w2 w3 w4 w5
  obtain ⟨wa, wb⟩ := w1
  simp only [planV] at *
  go_enter Tryd.func12, Tryd.ntmps12
  go_wp2_with fail
  refine HFT.out.mono ?_
  rintro e w1 (⟨_, rfl, hb⟩ | ⟨h, _⟩)
  case inr => exact absurd HF.out h
  obtain ⟨wB, hwB⟩ : ∃ wB, wB = w.alloc (.cells #[.int .u16 fr, .slice A1 cs.length c1, .slice A2 ps.length c2, .slice A3 hs'.length c3, .slice A4 rs.length c4] 28) := ⟨_, rfl⟩
  have hsz : wB.heap.size = w.heap.size + 1 := by rw [hwB]; simp
  have hrow : wB.heap[w.heap.size]? = some (.cells #[.int .u16 fr, .slice A1 cs.length c1, .slice A2 ps.length c2, .slice A3 hs'.length c3, .slice A4 rs.length c4] 28 (0, 0)) := by rw [hwB]; exact heap_alloc_new _ _
  rw [← hwB] at hb HP HB1
  have HR := Lib.hid hrow
  have HZ := Lib.hid hsz
  have HB := Lib.hid hb
  have hs1 := hb.size
  rw [hsz] at hs1
  obtain ⟨k0, k1, k2, k3, k4⟩ := box5 ((hb.block _ (by omega)).trans hrow)
  clear hwB hsz hrow hb HFT
  have kc := Lib.run_convert_bytes_const (P := Tryd.prog) w1 31 5 #[.int .u8 80, .int .u8 85, .int .u8 82, .int .u8 49] 4 4 Tryd.underlying31 Tryd.underlying5
  have km : (w1.alloc (.cells #[.int .u8 80, .int .u8 85, .int .u8 82, .int .u8 49] 5 (4, 5))).cell? ⟨w.heap.size, 0, none⟩ = some (.int .u16 fr) := by rw [World.cell?_alloc_lt _ _ ⟨w.heap.size, 0, none⟩ (by show w.heap.size < _; omega)]; exact k0
  have HT := Lib.hid (putTwo_full ⟨w1.heap.size, 0, none⟩ magicL fr (w1.alloc (.cells #[.int .u8 80, .int .u8 85, .int .u8 82, .int .u8 49] 5 (4, 5))) (fun j u hu => by
    rw [add_lit, Nat.zero_add, World.cell?_alloc_mark]
    match j, hu with
    | 0, hu => exact hu
    | 1, hu => exact hu
    | 2, hu => exact hu
    | 3, hu => exact hu) wa wb (by decide) (by decide))
  go_wp2_with fail
  refine HT.out.mono ?_
  rintro e w2 ⟨v2, rfl, hO2, hB2⟩
  have HO2 := Lib.hid (show Own w2 (w.heap.size + 1) v2 (magicL ++ two fr) from hO2.base (by simp; omega))
  have HB2 : Hid (Below (w.heap.size + 1) wB w2) := HZ.out ▸ ((HB.out.alloc (by rw [HZ.out]; omega) (.cells #[.int .u8 80, .int .u8 85, .int .u8 82, .int .u8 49] 5 (4, 5))).trans (hB2.mono (by rw [HZ.out]; simp; omega)))
  have hs2 := hB2.size
  simp at hs2
  clear hO2 hB2 HT kc km k0 k1 k2 k3 k4
  obtain ⟨k0, k1, k2, k3, k4⟩ := box5 ((HB2.out.block _ (by omega)).trans HR.out)
  go_wp2_with (at_builtin; refine wpList_put rfl _ _ rfl (w.heap.size + 1) v2 _ rfl (HO2.out.alloc _) ⟨w2.heap.size, 0, none⟩ 4 4 [(cs.length : Int), (ps.length : Int), (hs'.length : Int), (rs.length : Int)] rfl rfl ?c1 (by simp [magicL, two]) (by simp; omega) ?_)
  case c1 => exact news_lit rfl 5
  intro v3 w3 hO3 hG3 _
  have HB3 := Lib.hid ((HO2.out.alloc _).below (by simp; omega) hG3 (HB2.out.alloc (by omega) _))
  have HO3 : Hid (Own w3 (w.heap.size + 1) v3 (encHead (fr, cs, ps, hs', rs))) := hO3
  obtain ⟨k0, k1, k2, k3, k4⟩ := box5 ((HB3.out.block _ (by omega)).trans HR.out)
  have hs3 := HB3.out.size
  rw [HZ.out] at hs3
  clear hO3 hG3
  have HN : Hid ((encHead (fr, cs, ps, hs', rs)).length + (cs.flatMap encCore).length + (ps.flatMap encPart).length + (hs'.flatMap encChan).length + (rs.flatMap encPair).length ≤ 1000000) := by
    have := HS.out
    unfold Small enc at this
    simp only [List.length_append] at this
    exact this
  obtain ⟨l1v, hl1v⟩ : ∃ l, l = encHead (fr, cs, ps, hs', rs) := ⟨_, rfl⟩
  rw [← hl1v] at HO3 HN
  have HE1 := Lib.hid hl1v
  clear hl1v
  go_wp2_with fail
  go_loopw [5, 46] (fun v i wr => EncRel (w.heap.size + 1) l1v encCore cs wB v i wr) (fun _ i _ => cs.length - (intOf i).toNat)
  case atStart => exact ⟨0, Nat.zero_le _, rfl, by simpa using HO3.out, HB3.out⟩
  case round =>
    obtain ⟨k, hk, rfl, hO, hB⟩ := hrel
    have HO := Lib.hid hO
    have HB := Lib.hid hB
    have hsr := hB.size
    rw [HZ.out] at hsr
    clear hO hB
    by_cases hlt : k < cs.length
    · obtain ⟨Pf, g1, g1'⟩ := HP.out.cores
      have hBw := HB.out.mono (show wB.heap.size ≤ w.heap.size + 1 by rw [HZ.out]; exact Nat.le_refl _)
      obtain ⟨b, o, hA⟩ := Arr.head g1 hlt
      simp only at hA g1
      subst hA
      have cc := Arr.at (j := 0) (g1.keep hBw) hlt rfl
      obtain ⟨ws, hws⟩ : ∃ n, n = cs.getD k [] := ⟨_, rfl⟩
      obtain ⟨⟨A, c⟩, hPf⟩ : ∃ p, p = Pf k := ⟨_, rfl⟩
      have gw := g1' k hlt
      simp only [slV, ← hws, ← hPf, Nat.mul_one, Nat.add_zero] at cc gw
      have hmem : ws ∈ cs := hws ▸ getD_mem [] hlt
      have hLs := L5.out ws hmem
      have hfl := flat_le encCore cs k
      have hN := HN.out
      have HC := Lib.hid (putCore_any (w.heap.size + 1) u5 _ A c ws wr HO.out hsr (Arr.keep gw hBw) (fun hpos b' o' e => by
        subst e
        have := Arr.lt gw hpos (by simp [winV])
        rw [HZ.out] at this
        exact this) (W2.out ws hmem) (F5.out ws hmem) (by rw [List.length_append]; omega))
      have HE : Hid ((cs.take (k + 1)).flatMap encCore = (cs.take k).flatMap encCore ++ encCore ws) := by
        show _ = _
        rw [take_succ_flat encCore cs k [] hlt, ← hws]
      clear hws hPf gw g1 g1' hmem hLs hfl hN hBw
      go_wp2_with (go_at_call 23; refine HC.out.mono ?_; rintro e w4 ⟨v4, rfl, hO4, hB4⟩; have HO4 := Lib.hid hO4; have HB4 := Lib.hid (HB.out.trans hB4); clear hO4 hB4 HC)
      go_roundw
      case rel => exact ⟨k + 1, by omega, by go_num, by rw [HE.out, ← List.append_assoc]; exact HO4.out, HB4.out⟩
      case measure => simp [intOf]; omega
    · have hk' : k = cs.length := by omega
      subst hk'
      rw [List.take_length] at HO
      obtain ⟨l2v, hl2v⟩ : ∃ l, l = l1v ++ cs.flatMap encCore := ⟨_, rfl⟩
      rw [← hl2v] at HO
      have hl2n : l2v.length = l1v.length + (cs.flatMap encCore).length := by rw [hl2v, List.length_append]
      have HE2 := Lib.hid hl2v
      have HL2 := Lib.hid hl2n
      clear hl2v hl2n k0 k1 k2 k3 k4
      obtain ⟨k0, k1, k2, k3, k4⟩ := box5 ((HB.out.block _ (by omega)).trans HR.out)
      go_wp2_with fail
      go_loopw [5, 57] (fun v i wr => EncRel (w.heap.size + 1) l2v encPart ps wB v i wr) (fun _ i _ => ps.length - (intOf i).toNat)
      case atStart => exact ⟨0, Nat.zero_le _, rfl, by simpa using HO.out, HB.out⟩
      case round =>
        clear k0 k1 k2 k3 k4
        obtain ⟨wo, hwo⟩ : ∃ wo : World, wo = wr := ⟨_, rfl⟩
        clear hwo
        obtain ⟨k, hk, rfl, hO, hB⟩ := hrel
        have HO := Lib.hid hO
        have HB := Lib.hid hB
        have hsr := hB.size
        rw [HZ.out] at hsr
        clear hO hB
        by_cases hlt : k < ps.length
        · obtain ⟨Sf, Pf, g1, g1'⟩ := HP.out.parts
          have hBw := HB.out.mono (show wB.heap.size ≤ w.heap.size + 1 by rw [HZ.out]; exact Nat.le_refl _)
          obtain ⟨b, o, hA⟩ := Arr.head g1 hlt
          simp only at hA g1
          subst hA
          obtain ⟨q, hq⟩ : ∃ n, n = ps.getD k dQ := ⟨_, rfl⟩
          obtain ⟨⟨S1, S2⟩, hSf⟩ : ∃ p, p = Sf k := ⟨_, rfl⟩
          obtain ⟨⟨P1, P2⟩, hPf⟩ : ∃ p, p = Pf k := ⟨_, rfl⟩
          obtain ⟨gs, gp, gn⟩ := g1' k hlt
          have hg := g1.keep hBw
          have c0 := hg.at (j := 0) hlt rfl
          have c1 := hg.at (j := 1) hlt rfl
          have c2 := hg.at (j := 2) hlt rfl
          have c3 := hg.at (j := 3) hlt rfl
          have c4 := hg.at (j := 4) hlt rfl
          have c5 := hg.at (j := 5) hlt rfl
          simp only [← hq, ← hSf, ← hPf, Nat.add_zero, slV] at c0 c1 c2 c3 c4 c5 gs gp gn
          have hmem : q ∈ ps := hq ▸ getD_mem dQ hlt
          obtain ⟨q1, q2⟩ := F6.out q hmem
          have hfl := flat_le encPart ps k
          have hN := HN.out
          have hL2 := HL2.out
          have HC := fun W (hW : Below wr.heap.size wr W) => Lib.hid (putPart_any (w.heap.size + 1) u5 _ (S1, S2) (P1, P2) q W (HO.out.keep hW) (Nat.le_trans hsr hW.size) (Arr.keep (Arr.keep gs hBw) hW) (Arr.keep (Arr.keep gp hBw) hW) (fun hpos b' o' e => by
            rw [show S1 = _ from e] at gs
            have := Arr.lt gs hpos (by simp [semV])
            rw [HZ.out] at this
            exact this) (fun hpos b' o' e => by
            rw [show P1 = _ from e] at gp
            have := Arr.lt gp hpos (by simp)
            rw [HZ.out] at this
            exact this) gn q1 q2 (by rw [List.length_append]; omega))
          have HE : Hid ((ps.take (k + 1)).flatMap encPart = (ps.take k).flatMap encPart ++ encPart q) := by
            show _ = _
            rw [take_succ_flat encPart ps k dQ hlt, ← hq]
          simp only [slV] at HC
          have HC := Lib.hid HC
          clear hq hSf hPf gs gp gn g1 g1' hmem hfl hN hBw hL2 hg
          go_wp2_with (go_at_call 24; refine (HC.out _ ((Below.refl _ _).alloc (Nat.le_refl _) _)).out.mono ?_; rintro e w4 ⟨v4, rfl, hO4, hB4⟩; have HO4 := Lib.hid hO4; have HB4 := Lib.hid ((HB.out.alloc (by omega) _).trans hB4); clear hO4 hB4 HC)
          go_roundw
          case rel => exact ⟨k + 1, by omega, by go_num, by rw [HE.out, ← List.append_assoc]; exact HO4.out, HB4.out⟩
          case measure => simp [intOf]; omega
        · have hk' : k = ps.length := by omega
          subst hk'
          rw [List.take_length] at HO
          obtain ⟨l3v, hl3v⟩ : ∃ l, l = l2v ++ ps.flatMap encPart := ⟨_, rfl⟩
          rw [← hl3v] at HO
          have hl3n : l3v.length = l2v.length + (ps.flatMap encPart).length := by rw [hl3v, List.length_append]
          have HE3 := Lib.hid hl3v
          have HL3 := Lib.hid hl3n
          clear hl3v hl3n
          obtain ⟨k0, k1, k2, k3, k4⟩ := box5 ((HB.out.block _ (by omega)).trans HR.out)
          go_wp2_with fail
          go_loopw [5, 68] (fun v i wr => EncRel (w.heap.size + 1) l3v encChan hs' wB v i wr) (fun _ i _ => hs'.length - (intOf i).toNat)
          case atStart => exact ⟨0, Nat.zero_le _, rfl, by simpa using HO.out, HB.out⟩
          case round =>
            clear k0 k1 k2 k3 k4
            obtain ⟨wo2, hwo⟩ : ∃ wo : World, wo = wr := ⟨_, rfl⟩
            clear hwo
            obtain ⟨k, hk, rfl, hO, hB⟩ := hrel
            have HO := Lib.hid hO
            have HB := Lib.hid hB
            have hsr := hB.size
            rw [HZ.out] at hsr
            clear hO hB
            by_cases hlt : k < hs'.length
            · have g1 := HP.out.chans
              have hBw := HB.out.mono (show wB.heap.size ≤ w.heap.size + 1 by rw [HZ.out]; exact Nat.le_refl _)
              obtain ⟨b, o, hA⟩ := Arr.head g1 hlt
              simp only at hA g1
              subst hA
              obtain ⟨⟨x1, x2, x3, x4, x5, x6⟩, hq⟩ : ∃ n, n = hs'.getD k dC := ⟨_, rfl⟩
              obtain ⟨c0, c1, c2, c3, c4, c5⟩ := ChansAt.cells (Arr.keep g1 hBw) hlt hq
              simp only at c0 c1 c2 c3 c4 c5
              have hmem := hq ▸ getD_mem dC hlt
              obtain ⟨_, _, _, _, _, ⟨a1, a2⟩⟩ := W4.out _ hmem
              simp only at a1 a2
              have hfl := flat_le encChan hs' k
              have hN := HN.out
              have hL2 := HL2.out
              have hL3 := HL3.out
              have hLN : (l3v ++ (hs'.take k).flatMap encChan).length ≤ 1000000 := by rw [List.length_append]; omega
              have HE : Hid ((hs'.take (k + 1)).flatMap encChan = (hs'.take k).flatMap encChan ++ encChan (x1, x2, x3, x4, x5, x6)) := by
                show _ = _
                rw [take_succ_flat encChan hs' k dC hlt, ← hq]
              clear hq g1 hmem hfl hN hBw hL2 hL3
              obtain ⟨LL, hLL⟩ : ∃ l, l = l3v ++ (hs'.take k).flatMap encChan := ⟨_, rfl⟩
              rw [← hLL] at HO hLN
              have HLL := Lib.hid hLL
              clear hLL
              go_wp2_with fail
              go_region_held3 (fun w' => w'.heap[wr.heap.size]? = some (.cells #[.int .u8 x1, .int .u8 x2, .int .u8 x3, .int .u8 x4, .int .u8 x5, .int .u16 x6] 60 (0, 0)) ∧ w'.cell? ⟨wr.heap.size, 0, none⟩ = some (.int .u8 x1) ∧ w'.cell? ⟨wr.heap.size, 1, none⟩ = some (.int .u8 x2) ∧
                  w'.cell? ⟨wr.heap.size, 2, none⟩ = some (.int .u8 x3) ∧ w'.cell? ⟨wr.heap.size, 3, none⟩ = some (.int .u8 x4) ∧ w'.cell? ⟨wr.heap.size, 4, none⟩ = some (.int .u8 x5) ∧ w'.cell? ⟨wr.heap.size, 5, none⟩ = some (.int .u16 x6))
                (first | exact box6' (heap_alloc_new wr (.cells #[.int .u8 x1, .int .u8 x2, .int .u8 x3, .int .u8 x4, .int .u8 x5, .int .u16 x6] 60)) | exact box6' (row_alloc (heap_alloc_new wr (.cells #[.int .u8 x1, .int .u8 x2, .int .u8 x3, .int .u8 x4, .int .u8 x5, .int .u16 x6] 60)) _) | exact box6' hK)
                (first
                  | (go_at_call 22; refine (putTwo_any (w.heap.size + 1) v4 _ x6 _ HO4.out (by have := hs4; omega) a1 a2 (by rw [List.length_append]; simp only [List.length_cons, List.length_nil]; omega)).mono ?_; rintro e w5 ⟨v5, rfl, hO5, hG5⟩
                     have hK5 := row_grown hK HO4.out hG5 (by decide)
                     have HO5 := Lib.hid hO5
                     have HB5 := Lib.hid (HO4.out.below (by have := hs4; omega) hG5 HB4.out)
                     clear hK
                     have hK := hK5
                     clear hK5 hO5 hG5)
                  | (refine step_put (by rfl) _ _ (by rfl) (w.heap.size + 1) u5 LL (by rfl) (((HO.out.alloc (.cells #[.int .u8 x1, .int .u8 x2, .int .u8 x3, .int .u8 x4, .int .u8 x5, .int .u16 x6] 60)).alloc (.cells #[.int .u8 x1, .int .u8 x2, .int .u8 x3, .int .u8 x4, .int .u8 x5] 5)).drew) ⟨wr.heap.size + 1, 0, none⟩ 5 5 [x1, x2, x3, x4, x5] (by rfl) (by rfl) (news_drew (w := wr.alloc (.cells #[.int .u8 x1, .int .u8 x2, .int .u8 x3, .int .u8 x4, .int .u8 x5, .int .u16 x6] 60)) (C := #[.int .u8 x1, .int .u8 x2, .int .u8 x3, .int .u8 x4, .int .u8 x5]) (l := [x1, x2, x3, x4, x5]) rfl 5 (wr.heap.size + 1) (by simp)) (by omega) (by omega) (by simp; omega) ?_
                     intro v4 w4 hO4 hG4
                     have hK := row_grown (row_drew (row_alloc (heap_alloc_new wr (.cells #[.int .u8 x1, .int .u8 x2, .int .u8 x3, .int .u8 x4, .int .u8 x5, .int .u16 x6] 60)) (.cells #[.int .u8 x1, .int .u8 x2, .int .u8 x3, .int .u8 x4, .int .u8 x5] 5))) (((HO.out.alloc (.cells #[.int .u8 x1, .int .u8 x2, .int .u8 x3, .int .u8 x4, .int .u8 x5, .int .u16 x6] 60)).alloc (.cells #[.int .u8 x1, .int .u8 x2, .int .u8 x3, .int .u8 x4, .int .u8 x5] 5)).drew) hG4 (by decide)
                     have HO4 := Lib.hid hO4
                     have hs4 := hG4.size
                     have HB4 := Lib.hid ((((HO.out.alloc (.cells #[.int .u8 x1, .int .u8 x2, .int .u8 x3, .int .u8 x4, .int .u8 x5, .int .u16 x6] 60)).alloc (.cells #[.int .u8 x1, .int .u8 x2, .int .u8 x3, .int .u8 x4, .int .u8 x5] 5)).drew).below (by simp; omega) hG4 (((HB.out.alloc (by omega) (.cells #[.int .u8 x1, .int .u8 x2, .int .u8 x3, .int .u8 x4, .int .u8 x5, .int .u16 x6] 60)).alloc (by simp; omega) (.cells #[.int .u8 x1, .int .u8 x2, .int .u8 x3, .int .u8 x4, .int .u8 x5] 5)).drew))
                     simp at hs4
                     clear hO4 hG4))
              clear hK
              go_wp2
              go_roundw
              case rel => exact ⟨k + 1, by omega, by go_num, by rw [HE.out, ← List.append_assoc]; have := HO5.out; rw [HLL.out] at this; simpa [encChan] using this, HB5.out⟩
              case measure => simp [intOf]; omega
            · have hk' : k = hs'.length := by omega
              subst hk'
              rw [List.take_length] at HO
              obtain ⟨l4v, hl4v⟩ : ∃ l, l = l3v ++ hs'.flatMap encChan := ⟨_, rfl⟩
              rw [← hl4v] at HO
              have hl4n : l4v.length = l3v.length + (hs'.flatMap encChan).length := by rw [hl4v, List.length_append]
              have HE4 := Lib.hid hl4v
              have HL4 := Lib.hid hl4n
              clear hl4v hl4n
              obtain ⟨k0, k1, k2, k3, k4⟩ := box5 ((HB.out.block _ (by omega)).trans HR.out)
              go_wp2_with fail
              go_loopw [5, 92] (fun v i wr => EncRel (w.heap.size + 1) l4v encPair rs wB v i wr) (fun _ i _ => rs.length - (intOf i).toNat)
              case atStart => exact ⟨0, Nat.zero_le _, rfl, by simpa using HO.out, HB.out⟩
              case round =>
                clear k0 k1 k2 k3 k4
                obtain ⟨wo3, hwo⟩ : ∃ wo : World, wo = wr := ⟨_, rfl⟩
                clear hwo
                obtain ⟨k, hk, rfl, hO, hB⟩ := hrel
                have HO := Lib.hid hO
                have HB := Lib.hid hB
                have hsr := hB.size
                rw [HZ.out] at hsr
                clear hO hB
                by_cases hlt : k < rs.length
                · have g1 := HP.out.pairs
                  have hBw := HB.out.mono (show wB.heap.size ≤ w.heap.size + 1 by rw [HZ.out]; exact Nat.le_refl _)
                  obtain ⟨b, o, hA⟩ := Arr.head g1 hlt
                  simp only at hA g1
                  subst hA
                  obtain ⟨⟨x1, x2⟩, hq⟩ : ∃ n, n = rs.getD k dS := ⟨_, rfl⟩
                  obtain ⟨c0, c1⟩ := SemsAt.cells (Arr.keep g1 hBw) hlt hq
                  simp only at c0 c1
                  have hfl := flat_le encPair rs k
                  have hN := HN.out
                  have hL2 := HL2.out
                  have hL3 := HL3.out
                  have hL4 := HL4.out
                  have hLN : (l4v ++ (rs.take k).flatMap encPair).length ≤ 1000000 := by rw [List.length_append]; omega
                  have HE : Hid ((rs.take (k + 1)).flatMap encPair = (rs.take k).flatMap encPair ++ encPair (x1, x2)) := by
                    show _ = _
                    rw [take_succ_flat encPair rs k dS hlt, ← hq]
                  clear hq g1 hfl hN hBw hL2 hL3 hL4
                  obtain ⟨LL, hLL⟩ : ∃ l, l = l4v ++ (rs.take k).flatMap encPair := ⟨_, rfl⟩
                  rw [← hLL] at HO hLN
                  have HLL := Lib.hid hLL
                  clear hLL
                  go_wp2_with (at_builtin; refine wpList_put rfl _ _ rfl (w.heap.size + 1) u5 _ rfl ((HO.out.alloc _).alloc _) ⟨wr.heap.size + 1, 0, none⟩ 2 2 [x1, x2] rfl rfl ?c1 (by omega) (by simp; omega) ?_)
                  case c1 => simpa using news2 (w := wr.alloc _) (x := x1) (y := x2) 5
                  intro v4 w4 hO4 hG4 _
                  have HO4 := Lib.hid hO4
                  have HB4 := Lib.hid (((HO.out.alloc _).alloc _).below (by simp; omega) hG4 ((HB.out.alloc (by omega) _).alloc (by simp; omega) _))
                  clear hO4 hG4
                  go_wp2
                  go_roundw
                  case rel => exact ⟨k + 1, by omega, by go_num, by rw [HE.out, ← List.append_assoc]; have := HO4.out; rw [HLL.out] at this; simpa [encPair] using this, HB4.out⟩
                  case measure => simp [intOf]; omega
                · have hk' : k = rs.length := by omega
                  subst hk'
                  go_wp2_with fail
                  go_ret2
                  refine ⟨_, rfl, ?_, HB1.out.trans (HB.out.mono (by omega))⟩
                  have := HO.out.base (base' := w.heap.size) (by omega)
                  rw [List.take_length, HE4.out, HE3.out, HE2.out, HE1.out] at this
                  exact this
end Go.Proofs.YtkgkjkghdllkhaaDoor
