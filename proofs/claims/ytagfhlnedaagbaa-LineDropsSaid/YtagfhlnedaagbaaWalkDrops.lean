/-
  The law of the drops.
-/
import Derived.Test.YtagfhlnedaagbaaMade
import Derived.Deep.CutBlock
import Derived.Lib.JoinLaws
namespace Go.Proofs.Ytagfhlnedaagbaa
open Go.RowKit

/-- The others. -/
def restL (l : List Int) (id : Int) : List Int := l.filter fun x => !decide (x = id)
theorem drop_nums {S : Ln} {id : Int} (h : S.has id = true) : (S.drop id).nums = restL S.nums id ∧ S.dropE id = 0 := by
  obtain ⟨a, ha, e⟩ := has_iff.1 h
  have hid : toId id = a.id := by rw [← e]; exact toId_of _
  refine ⟨?_, by unfold Ln.dropE; rw [if_pos h]⟩
  unfold Ln.drop
  rw [if_pos h, hid]
  unfold Ln.without Ln.nums restL
  rw [List.filter_map]
  refine congrArg _ (List.filter_congr fun b _ => ?_)
  show (!decide (b.id = a.id)) = !decide ((b.id.val : Int) = id)
  congr 1
  rw [decide_eq_decide]
  exact ⟨fun h => by rw [h, e], fun h => Fin.ext (by omega)⟩
theorem has_mem {S : Ln} {id : Int} : S.has id = true ↔ id ∈ S.nums := by
  rw [has_iff]
  unfold Ln.nums
  rw [List.mem_map]
theorem rest_no {l : List Int} {id : Int} (h : ¬ id ∈ l) : restL l id = l := by
  unfold restL
  rw [List.filter_eq_self]
  intro x hx
  simp only [Bool.not_eq_true', decide_eq_false_iff_not]
  intro e
  exact h (e ▸ hx)
/-- Who comes again at the least priority comes behind. -/
theorem put_last {S : Ln} {id : Int} (ok : Ok S) (hid : 0 ≤ id ∧ id ≤ 65535) (h : S.has id = false) : S.putE id 0 (-1) = 0 ∧ (S.put id 0 (-1)).nums = S.nums ++ [id] ∧ (S.put id 0 (-1)).has id = true := by
  have hE : S.putE id 0 (-1) = 0 := by
    unfold Ln.putE
    rw [if_neg (by omega), if_neg (by omega), if_neg (by simp), if_neg (by rw [h]; simp)]
  have hq : (S.put id 0 (-1)).q = S.q ++ [⟨toId id, 0, -1, S.n⟩] := by
    have hall : ∀ a ∈ S.q, Bef a ⟨toId id, 0, -1, S.n⟩ := fun a ha => by
      have h1 := (ok.pri a ha).1
      have h2 := ok.arr a ha
      rcases Int.lt_trichotomy a.prio 0 with h | h | h
      · omega
      · exact .inr ⟨h, h2⟩
      · exact .inl h
    have : (S.put id 0 (-1)).q = ins ⟨toId id, 0, -1, S.n⟩ S.q := by unfold Ln.put; rw [if_pos hE]
    rw [this]
    unfold ins
    rw [List.filter_eq_self.2 (fun a ha => decide_eq_true (hall a ha)), List.filter_eq_nil_iff.2 (fun a ha => by simp [hall a ha])]
  have hv := toId_val (id := id) (by omega)
  refine ⟨hE, ?_, has_iff.2 ⟨_, by rw [hq]; exact List.mem_append_right _ (List.mem_singleton.2 rfl), hv⟩⟩
  unfold Ln.nums
  rw [hq, List.map_append]
  show _ ++ [((toId id).val : Int)] = _
  rw [hv]
/-- Numbers of one's own, in no block below H. -/
def NumsB (H : Nat) (w : World) (v : Value) (l : List Int) : Prop := w.ownsRow H 3 1 v l.length (l.map nV)
theorem NumsB.ge {H : Nat} {w : World} {v : Value} {l : List Int} (h : NumsB H w v l) {x : Nat} (hx : v.ownBlock = some x) : H ≤ x := (World.ownsRow.lt h x hx).1
theorem NumsB.nums {H : Nat} {w : World} {v : Value} {l : List Int} (h : NumsB H w v l) : Nums w v l := by
  refine ⟨h.1, ?_⟩
  rcases h.2 with h1 | ⟨g, cap, cur, hv, _, rest⟩
  · exact .inl h1
  · exact .inr ⟨g, cap, cur, hv, Nat.zero_le _, rest⟩
theorem NumsB.same {H : Nat} {w w' : World} {v : Value} {l : List Int} (h : NumsB H w v l) (hb : ∀ x, v.ownBlock = some x → w'.heap[x]? = w.heap[x]?) : NumsB H w' v l := by
  refine ⟨h.1, ?_⟩
  rcases h.2 with h1 | ⟨g, cap, cur, hv, hb0, hg, rest⟩
  · exact .inl h1
  · exact .inr ⟨g, cap, cur, hv, hb0, by rw [hb g (by rw [hv]; rfl)]; exact hg, rest⟩
theorem NumsB.lt {H : Nat} {w : World} {v : Value} {l : List Int} (h : NumsB H w v l) {x : Nat} (hx : v.ownBlock = some x) : x < w.heap.size := (World.ownsRow.lt h x hx).2
set_option maxRecDepth 100000 in
/-- The append of a list of numbers to an empty one. -/
theorem wpList_spread0 {ops : Array Oper} {rest : List Oper} {o : Oper} {a : Act} {Q : Exit → Act → World → Prop} (hgd : o.guard = Option.none) (s x : Operand)
    (ho : o.op = .call { callee := .builtin .append, args := #[s, x], argTypes := #[33, 33] }) {w : World} {B : Nat} {r : List Int} {A : Option Addr} {c m : Nat} (h : Nums w (.slice (some ⟨B, 0, none⟩) 0 0) []) (hr : Ints w A r) (hm : m = r.length) (hc : A = none → r.length = 0 ∧ c = 0) (hk2 : r.length ≤ 100000)
    (hs : a.eval s = .slice (some ⟨B, 0, none⟩) 0 0) (hx : a.eval x = .slice A m c)
    (hQ : ∀ v' w2, Nums w2 v' r → Chg (fun x => x = B) w w2 → (∀ x, v'.ownBlock = some x → x = B ∨ w.heap.size ≤ x) → wpList Try.prog ops Q rest (a.put o.dst v') w2) :
    wpList Try.prog ops Q (o :: rest) a w := by
  subst hm
  obtain ⟨i0, hi, hz0, hz1, hz2⟩ := info3z
  have hself : ∀ x, (Value.slice (some ⟨B, 0, none⟩) 0 0).ownBlock = some x → x = B ∨ w.heap.size ≤ x := fun x e => by
    have e : some B = some x := e
    injection e with e
    exact .inl e.symm
  cases A with
  | none =>
    obtain ⟨h1, h2⟩ := hc rfl
    have hr0 : r = [] := List.length_eq_zero_iff.1 h1
    subst hr0
    subst h2
    exact wpList_append_own_none hgd s x 33 ho 0 3 i0 1 Try.underlying33 hi _ 0 [] hs h hx (hQ _ w h (Chg.refl w) hself)
  | some ad =>
    have hnews : ∀ j u, (r.map nV)[j]? = some u → w.cell? (ad.add j) = some u := by
      intro j u hu
      have hj : j < r.length := by have := (List.getElem?_eq_some_iff.1 hu).1; simpa using this
      obtain ⟨b, o', e, hcc⟩ := hr j hj
      injection e with e
      subst e
      rw [List.getElem?_map, getD_of hj] at hu
      injection hu with hu
      subst hu
      rw [Go.WideShapes.add_plain]
      exact hcc
    by_cases h0 : r.length = 0
    · have hr0 : r = [] := List.length_eq_zero_iff.1 h0
      subst hr0
      refine wpList_append_room_src w hgd s x 33 33 ho 3 i0 Try.underlying33 hi B 0 0 0 hs _ hx 0 [] (Go.Src.ofSlice w Try.underlying33 ad 0 c [] (Nat.zero_mul _).symm (fun j u hu => by cases hu) (fun u hu => by cases hu)) (Nat.le_refl _) (fun j hj => absurd hj (Nat.not_lt_zero _)) (fun j hj => absurd hj (Nat.not_lt_zero _)) ?_
      exact hQ _ w h (Chg.refl w) hself
    · refine wpList_append_lies _ hgd s x 33 ho 0 3 i0 (.int .i64 0) 1 8 Try.underlying33 hi hz0 hz1 hz2 rfl (by decide) _ 0 [] hs h ad r.length c (r.map nV) hx (by simp) hnews (one_nV rfl) (by omega) (by unfold maxLen; omega) (by omega) (Nat.zero_le _) w.heap.size rfl ?_
      intro g' cap' w2 hown hgrow hat _
      have hD : Nums w2 (.slice (some ⟨g', 0, none⟩) (0 + r.length) cap') r := by unfold Nums; simpa using hown
      refine hQ _ w2 hD ⟨hgrow.os, hgrow.tape, hgrow.output, hgrow.size, fun x hx hn => hgrow.block x hx (fun e => hn (by have e : some x = some B := e; injection e))⟩ fun x e => ?_
      have e : some g' = some x := e
      injection e with e
      rcases hat with h | h
      · have h : some B = some g' := h
        injection h with h
        exact .inl (by omega)
      · exact .inr (by omega)
set_option maxRecDepth 100000 in
set_option maxHeartbeats 8000000 in
theorem walk_drops (A : Option Addr) (c : Nat) (cs : List CallA) (id : Int) (w : World) (hwf : ∀ y ∈ cs, WfCall y) (hA : CallsAt w A cs) (hid : I64 id) :
    Calls Try.prog 7 #[.slice A cs.length c, nV id] w fun e w' => e = .returned (.bool true) ∧ Below w.heap.size w w' := by
  have hmd := Lib.hid (made_any A c cs w hwf hA)
  have haw := Lib.hid (fun W => awake_any W)
  clear hwf hA
  go_enter Try.func7, Try.ntmps7
  go_wp2_with fail
  with_reducible refine hmd.out.mono ?_
  rintro e w1 ⟨g, b, v, S, rfl, hLB, hq, hN⟩
  have L0 := Lib.hid hLB
  clear hmd hLB
  go_wp2_with fail
  with_reducible refine (haw.out _).mono ?_
  rintro e w2 ⟨rfl, hB2⟩
  have hL2 := L0.out.keep hB2
  have HLI := Lib.hid (list_any w2 hL2.ln (by omega))
  have L2 := Lib.hid hL2
  clear L0 hB2 hL2 haw
  go_wp2_with fail
  with_reducible refine HLI.out.mono ?_
  rintro e w3 ⟨vl, rfl, hNl, hB3, hfl⟩
  obtain ⟨lA, lc, rfl, _⟩ := hNl.len
  have hL3 := L2.out.keep hB3
  obtain ⟨l, hl⟩ : ∃ l, l = S.nums := ⟨_, rfl⟩
  have hll : l.length ≤ 60 := by rw [hl, nums_len]; exact hq
  rw [← hl] at hNl ⊢
  have HLB := Lib.hid (And.intro hL3 (And.intro hl (And.intro hq hN)))
  have HNL := Lib.hid hNl
  obtain ⟨n, hn⟩ : ∃ n, n = l.length := ⟨_, rfl⟩
  rw [← hn] at HNL hll ⊢
  have HN := Lib.hid hn
  have hR0 : Nums (w3.alloc (.cells #[] 3)) (.slice (some ⟨w3.heap.size, 0, none⟩) 0 0) (restL (l.take 0) id) := by
    rw [List.take_zero]
    exact World.ownsRow_lit (base := 0) (size := 1) (e := 3) w3 #[] 0 (Nat.zero_le _) (by decide) rfl
  have HR0 := Lib.hid hR0
  clear hNl hB3 hfl hL3 L2 HLI hq hN hl hn hR0
  go_upto_block 0 with fail
  go_cut [7, 8, 9] (fun hv rv _ wx => hv = .bool (decide (id ∈ l)) ∧ Hid (Nums wx rv (restL l id)) ∧ Hid (Below w3.heap.size w3 wx) ∧ Hid (∀ x, rv.ownBlock = some x → w3.heap.size ≤ x))
  case first =>
    go_wp2_with fail
    go_loopw [7, 8, 9] (fun hv rv iv wr => ∃ i : Nat, iv = .int .i64 i ∧ i ≤ n ∧ hv = .bool (decide (id ∈ l.take i)) ∧ Hid (Nums wr rv (restL (l.take i) id)) ∧ Hid (Below w3.heap.size w3 wr) ∧ Hid (∀ x, rv.ownBlock = some x → w3.heap.size ≤ x)) (fun _ _ iv _ => n - (intOf iv).toNat)
    case atStart => exact ⟨0, rfl, Nat.zero_le _, by simp, HR0, (Below.refl _ _).alloc (Nat.le_refl _) _, fun x e => by
      have e : some w3.heap.size = some x := e
      injection e with e
      omega⟩
    case round =>
      obtain ⟨i, rfl, hin, hh, HR, HB, HG⟩ := hrel
      obtain ⟨rv, hrv⟩ : ∃ rv, rv = u8 := ⟨_, rfl⟩
      subst hrv
      subst hh
      have i0 : (0 : Int) ≤ (i : Int) := Int.natCast_nonneg _
      by_cases hil : i < n
      · have hil' : i < l.length := by rw [← HN.out]; exact hil
        obtain ⟨gq, rfl⟩ : ∃ gq, lA = some ⟨gq, 0, none⟩ := by
          obtain ⟨_, _, e, h⟩ := HNL.out.len
          obtain ⟨gq, e2⟩ := h (by omega)
          injection e with e1
          exact ⟨gq, by rw [e1, e2]⟩
        have c0 := (HNL.out.keep HB.out).at (i := i) hil'
        obtain ⟨z, hz⟩ : ∃ z, z = l.getD i 0 := ⟨_, rfl⟩
        rw [← hz] at c0
        have hnext : l.take (i + 1) = l.take i ++ [z] := by rw [List.take_succ_eq_append_getElem hil', hz, List.getD_eq_getElem?_getD, List.getElem?_eq_getElem hil']; rfl
        have HNX := Lib.hid hnext
        have i1 : (i : Int) < (n : Int) := by omega
        have hlen : (restL (l.take i) id).length ≤ 100000 := by
          have h1 : (restL (l.take i) id).length ≤ (l.take i).length := List.length_filter_le _ _
          rw [List.length_take] at h1
          omega
        clear hnext hz hil'
        obtain ⟨L0, hL0⟩ : ∃ L0, L0 = restL (l.take i) id := ⟨_, rfl⟩
        rw [← hL0] at HR hlen
        have HL0 := Lib.hid hL0
        clear hL0
        by_cases hzi : z = id
        · have HF : Hid (Value.bool true = .bool (decide (id ∈ l.take (i + 1))) ∧ restL (l.take (i + 1)) id = L0) := by
            rw [HNX.out]
            refine ⟨by rw [decide_eq_true (List.mem_append_right _ (List.mem_singleton.2 hzi.symm))], ?_⟩
            rw [HL0.out]
            unfold restL
            rw [List.filter_append, hzi]
            simp
          clear HNX HL0
          go_wp2_with fail
          go_roundw
          case rel => exact ⟨i + 1, by go_num, by omega, HF.out.1, by rw [HF.out.2]; exact HR, HB, HG⟩
          case measure => first | (simp [intOf]; done) | (simp [intOf]; omega)
        · have HF : Hid (Value.bool (decide (id ∈ l.take i)) = .bool (decide (id ∈ l.take (i + 1))) ∧ restL (l.take (i + 1)) id = L0 ++ [z]) := by
            rw [HNX.out]
            constructor
            · congr 1
              rw [decide_eq_decide, List.mem_append, List.mem_singleton]
              exact ⟨.inl, fun h => h.resolve_right fun e => hzi e.symm⟩
            · rw [HL0.out]
              unfold restL
              rw [List.filter_append]
              simp [hzi]
          clear HNX HL0
          go_wp2_with (at_builtin; refine wpList_app (z := z) rfl _ _ rfl HR.out hlen rfl rfl ?_; intro g' cap' w4 hN4 hC4 hO4)
          have HR4 : Hid (Nums w4 (.slice (some ⟨g', 0, none⟩) (L0.length + 1) cap') (restL (l.take (i + 1)) id)) := by rw [HF.out.2]; exact hN4
          have HB4 : Hid (Below w3.heap.size w3 w4) := HB.out.trans (Chg.below hC4 (fun x hx => HG.out x hx) HB.out.size)
          have HG4 : Hid (∀ x, (Value.slice (some ⟨g', 0, none⟩) (L0.length + 1) cap').ownBlock = some x → w3.heap.size ≤ x) := fun x e => by
            have e : some g' = some x := e
            injection e with e
            rcases hO4 with h | h
            · have := HG.out _ h; omega
            · have := HB.out.size; omega
          clear hN4 hC4 hO4 HR HG HB
          go_roundw
          case rel => exact ⟨i + 1, by go_num, by omega, HF.out.1, HR4, HB4, HG4⟩
          case measure => first | (simp [intOf]; done) | (simp [intOf]; omega)
      · obtain rfl : i = n := by omega
        have HX : Hid ((Value.bool (decide (id ∈ l.take i))) = .bool (decide (id ∈ l)) ∧ Hid (Nums wr rv (restL l id))) := by
          have e : l.take i = l := by rw [HN.out, List.take_length]
          rw [e]
          exact ⟨rfl, by have := HR.out; rw [e] at this; exact this⟩
        clear HR
        go_wp2_with fail
        all_goals go_meet
        all_goals exact ⟨HX.out.1, HX.out.2, HB, HG⟩
  case rest =>
    obtain ⟨rfl, HR, HB, HG⟩ := hcut
    obtain ⟨rv, hrv⟩ : ∃ rv, rv = u8 := ⟨_, rfl⟩
    subst hrv
    obtain ⟨hL3, hl, hq, hNn⟩ := HLB.out
    have hL4 := hL3.keep HB.out
    have hfar : ∀ x, rv.ownBlock = some x → ¬ Blk g b v x := fun x hx hb => by have := hL3.ln.blk_lt hb; have := HG.out x hx; omega
    have HDR := Lib.hid (drop_any id hid wc hL4.ln (by omega))
    have hrl : (restL l id).length ≤ 60 := by
      have h1 : (restL l id).length ≤ l.length := List.length_filter_le _ _
      have := HN.out
      omega
    obtain ⟨rA, rc, hrve, hrA⟩ := HR.out.len
    subst hrve
    by_cases hmem : id ∈ l
    · have hhas : S.has id = true := has_mem.2 (by rw [← hl]; exact hmem)
      obtain ⟨hdn, hde⟩ := drop_nums hhas
      rw [← hl] at hdn
      have HX := Lib.hid (And.intro hL4 (And.intro hdn (And.intro hde (And.intro HR.out (And.intro hfar (And.intro hq hNn))))))
      rw [decide_eq_true hmem]
      have hrng : 0 ≤ id ∧ id ≤ 65535 := by
        obtain ⟨a, _, e⟩ := has_iff.1 hhas
        have := a.id.isLt
        omega
      clear hL3 hl hq hNn hL4 hfar HR HB HG HLB hhas hdn hde hmem HR0 HNL
      go_wp2_with fail
      with_reducible refine HDR.out.mono ?_
      rintro e w4 ⟨he, hP⟩
      obtain ⟨hL4, hdn, hde, hR, hfar, hq, hNn⟩ := HX.out
      rw [hde] at he
      obtain rfl := he
      obtain ⟨v4, hL5, hF⟩ := hL4.step hP
      obtain ⟨hR4, hfar4⟩ := hR.far hF hfar
      have hq5 : (S.drop id).q.length ≤ 60 := Nat.le_trans (drop_len S id).1 hq
      have hn5 : (S.drop id).n ≤ 60 := by rw [(drop_len S id).2]; exact hNn
      have hLI := list_any w4 hL5.ln (by omega)
      rw [hdn] at hLI
      have HLI := Lib.hid hLI
      have HX5 := Lib.hid (And.intro hL5 (And.intro hR4 (And.intro hfar4 (And.intro hq5 (And.intro hn5 hdn)))))
      clear hL4 hdn hde hR hfar hq hNn hP hL5 hF hR4 hfar4 hq5 hn5 hLI HX HDR
      go_wp2_with fail
      with_reducible refine HLI.out.mono ?_
      rintro e w5 ⟨vl, rfl, hN5, hB5, _⟩
      obtain ⟨eA, ec, rfl, _⟩ := hN5.len
      have HSM := Lib.hid (same_any eA rA ec rc _ _ w5 hN5.ints (HX5.out.2.1.keep hB5).ints (by omega))
      have HB5 := Lib.hid hB5
      clear hN5 hB5 HLI
      go_wp2_with fail
      with_reducible refine HSM.out.mono ?_
      rintro e w6 ⟨he, hB6⟩
      rw [decide_eq_true (show restL l id = restL l id from rfl)] at he
      obtain rfl := he
      have hB46 := HB5.out.trans (hB6.mono HB5.out.size)
      obtain ⟨hL5, hR4, hfar4, hq5, hn5, hdn⟩ := HX5.out
      have hno : (S.drop id).has id = false := by
        cases hh : (S.drop id).has id with
        | false => rfl
        | true =>
          have := has_mem.1 hh
          rw [hdn] at this
          unfold restL at this
          rw [List.mem_filter] at this
          simp at this
      obtain ⟨hpE, hpn, hph⟩ := put_last (hL5.ln.ok) hrng hno
      rw [hdn] at hpn
      have hL6 := hL5.keep hB46
      have hA6 : Below w6.heap.size w6 (w6.alloc (.cells #[] 3)) := (Below.refl _ _).alloc (Nat.le_refl _) _
      have hL7 := hL6.keep hA6
      have hNow0 : NumsB w6.heap.size (w6.alloc (.cells #[] 3)) (.slice (some ⟨w6.heap.size, 0, none⟩) 0 0) [] := World.ownsRow_lit (base := w6.heap.size) (size := 1) (e := 3) w6 #[] 0 (Nat.le_refl _) (by decide) rfl
      have hR6 := (hR4.keep hB46).keep hA6
      have HPU := Lib.hid (put_any id 0 (-1) _ hL7.ln (by omega) (by omega))
      have hnf : ¬ Blk g b v4 w6.heap.size := fun hb => by have := hL6.ln.blk_lt hb; omega
      have HX7 := Lib.hid (And.intro hL7 (And.intro hR6 (And.intro hfar4 (And.intro hNow0 (And.intro hpE (And.intro hpn (And.intro hph (And.intro hnf (And.intro hq5 hn5)))))))))
      have LSZ := Lib.hid hL6.sz
      clear hB6 hB46 hL5 hR4 hfar4 hq5 hn5 hdn hno hpE hpn hph hL6 hA6 hL7 hNow0 hR6 hnf HX5 HB5 HSM
      go_wp2_with fail
      with_reducible refine HPU.out.mono ?_
      rintro e w8 ⟨he, hP⟩
      obtain ⟨hL7, hR6, hfar4, hNow0, hpE, hpn, hph, hnf, hq5, hn5⟩ := HX7.out
      rw [hpE] at he
      obtain rfl := he
      obtain ⟨v8, hL8, hF⟩ := hL7.step hP
      obtain ⟨hR8, hfar8⟩ := hR6.far hF hfar4
      have hs6 : w6.heap.size < (w6.alloc (.cells #[] 3)).heap.size := by simp
      have hnb := hF w6.heap.size ⟨hs6, hnf⟩
      have hNow8 : NumsB w6.heap.size w8 (.slice (some ⟨w6.heap.size, 0, none⟩) 0 0) [] := hNow0.same fun x hx => by
        have e : some w6.heap.size = some x := hx
        injection e with e
        rw [← e]
        exact hnb.1
      have hnil : rA = none → (restL l id).length = 0 ∧ rc = 0 := fun e => by
        subst e
        obtain ⟨h1, h2, h3⟩ := nil_cap hR8
        exact ⟨h1, h2⟩
      have hsz8 : w6.heap.size ≤ w8.heap.size := Nat.le_of_lt hnb.2.1
      have HNOW := Lib.hid hNow8
      have HRI := Lib.hid hR8.ints
      have HNIL := Lib.hid hnil
      have HX8 := Lib.hid (And.intro hL8 (And.intro hnb.2.2 (And.intro hpn (And.intro hph (And.intro (put_len (S.drop id) id 0 (-1)) (And.intro hq5 hn5))))))
      have HS8 := Lib.hid hsz8
      clear hL7 hR6 hfar4 hNow0 hpE hpn hph hnf hq5 hn5 hP hL8 hF hR8 hfar8 hs6 hnb hNow8 hnil hsz8 HX7 HPU
      go_wp2_with (at_builtin; first
        | (refine wpList_spread0 rfl _ _ rfl HNOW.out.nums HRI.out rfl HNIL.out (by omega) rfl rfl ?_; intro v9 w9 hD9 hC9 hg9)
        | (refine wpList_app (z := id) rfl _ _ rfl hD9 (by omega) rfl rfl ?_; intro g' cap' w10 hN10 hC10 hO10))
      obtain ⟨hL8, hnf, hpn, hph, hpl, hq5, hn5⟩ := HX8.out
      have hL9 : LB w.heap.size w w9 g b v8 ((S.drop id).put id 0 (-1)) := ⟨hL8.ln.chg hC9 fun k hk e => hnf (e ▸ hk), hL8.blk, hL8.bel.trans (hC9.below (fun k e => by have := LSZ.out; omega) hL8.sz), Nat.le_trans hL8.sz hC9.size⟩
      have hf9 : ∀ x, v9.ownBlock = some x → ¬ Blk g b v8 x := fun x hx hb => by
        rcases hg9 x hx with e | e
        · exact hnf (e ▸ hb)
        · have := hL8.ln.blk_lt hb; omega
      have h9H : ∀ x, v9.ownBlock = some x → w.heap.size ≤ x := fun x hx => by
        rcases hg9 x hx with e | e
        · have := LSZ.out; omega
        · have := hL8.sz; omega
      have hL10 : LB w.heap.size w w10 g b v8 ((S.drop id).put id 0 (-1)) := ⟨hL9.ln.chg hC10 fun k hk e => hf9 k e hk, hL9.blk, hL9.bel.trans (hC10.below (fun k e => h9H k e) hL9.sz), Nat.le_trans hL9.sz hC10.size⟩
      have hq10 : ((S.drop id).put id 0 (-1)).q.length ≤ 61 := by omega
      have hn10 : ((S.drop id).put id 0 (-1)).n ≤ 61 := by omega
      have hLI := list_any w10 hL10.ln (by omega)
      rw [hpn] at hLI
      have HLI := Lib.hid hLI
      have HX10 := Lib.hid (And.intro hL10 (And.intro hN10 (And.intro hph (And.intro hq10 hn10))))
      clear hL8 hnf hpn hph hpl hq5 hn5 hL9 hf9 h9H hL10 hq10 hn10 hLI hD9 hC9 hg9 hN10 hC10 hO10 HX8 HS8 HNOW HRI HNIL
      go_wp2_with fail
      with_reducible refine HLI.out.mono ?_
      rintro e w11 ⟨vl, rfl, hN11, hB11, _⟩
      obtain ⟨fA, fc, rfl, _⟩ := hN11.len
      have HSM := Lib.hid (show Calls Try.prog 13 #[.slice fA ((restL l id).length + 1) fc, .slice (some ⟨g', 0, none⟩) ((restL l id).length + 1) cap'] w11 (fun e w' => SameP (restL l id ++ [id]) (restL l id ++ [id]) w11 e w') from by
        have := same_any fA (some ⟨g', 0, none⟩) fc cap' (restL l id ++ [id]) (restL l id ++ [id]) w11 hN11.ints (HX10.out.2.1.keep hB11).ints (by simp; omega)
        rw [show (restL l id ++ [id]).length = (restL l id).length + 1 by simp] at this
        exact this)
      have HB11 := Lib.hid hB11
      clear hN11 hB11 HLI
      go_wp2_with fail
      with_reducible refine HSM.out.mono ?_
      rintro e w12 ⟨he, hB12⟩
      rw [decide_eq_true (show restL l id ++ [id] = restL l id ++ [id] from rfl)] at he
      obtain rfl := he
      obtain ⟨hL10, _, hph, hq10, hn10⟩ := HX10.out
      have hL12 := (hL10.keep HB11.out).keep hB12
      have HPU := Lib.hid (put_any id 0 (-1) w12 hL12.ln (by omega) (by omega))
      have hE2 : ((S.drop id).put id 0 (-1)).putE id 0 (-1) = 141 := by
        unfold Ln.putE
        rw [if_neg (by omega), if_neg (by omega), if_neg (by simp), if_pos hph]
      have HE2 := Lib.hid hE2
      have HL12 := Lib.hid hL12
      clear hL10 hph hq10 hn10 hL12 hE2 hB12 HX10 HSM HB11
      go_wp2_with fail
      with_reducible refine HPU.out.mono ?_
      rintro e w13 ⟨he, hP⟩
      rw [HE2.out] at he
      obtain rfl := he
      obtain ⟨_, hL13, _⟩ := HL12.out.step hP
      have HBB := Lib.hid hL13.bel
      clear hP hL13 HPU HE2 HL12
      go_wp2_with fail
      go_ret
      exact ⟨rfl, HBB.out⟩
    · have hhas : S.has id = false := by
        cases hh : S.has id with
        | false => rfl
        | true => exact absurd (by rw [hl]; exact has_mem.1 hh) hmem
      have hde : S.dropE id = 142 := by unfold Ln.dropE; rw [hhas]; rfl
      have hds : S.drop id = S := by unfold Ln.drop; rw [hhas]; rfl
      have hrr : restL l id = l := rest_no hmem
      have HX := Lib.hid (And.intro hL4 (And.intro hde (And.intro hds (And.intro HR.out (And.intro hfar (And.intro hq (And.intro hl hrr)))))))
      rw [decide_eq_false hmem]
      clear hL3 hl hq hNn hL4 hfar HR HB HG HLB hhas hde hds hrr hmem HR0 HNL
      go_wp2_with fail
      with_reducible refine HDR.out.mono ?_
      rintro e w4 ⟨he, hP⟩
      obtain ⟨hL4, hde, hds, hR, hfar, hq, hl, hrr⟩ := HX.out
      rw [hde] at he
      rw [hds] at hP
      obtain rfl := he
      obtain ⟨v4, hL5, hF⟩ := hL4.step hP
      obtain ⟨hR4, hfar4⟩ := hR.far hF hfar
      have hLI := list_any w4 hL5.ln (by omega)
      rw [← hl] at hLI
      have HLI := Lib.hid hLI
      have HX5 := Lib.hid (And.intro hR4 (And.intro hrr (And.intro hL5.bel hL5.sz)))
      clear hL4 hde hds hR hfar hq hl hrr hP hL5 hF hR4 hfar4 hLI HX HDR
      go_wp2_with fail
      with_reducible refine HLI.out.mono ?_
      rintro e w5 ⟨vl, rfl, hN5, hB5, _⟩
      obtain ⟨eA, ec, rfl, _⟩ := hN5.len
      have HSM := Lib.hid (same_any eA rA ec rc _ _ w5 hN5.ints (HX5.out.1.keep hB5).ints (by have := HN.out; omega))
      have HB5 := Lib.hid hB5
      clear hN5 hB5 HLI
      go_wp2_with fail
      with_reducible refine HSM.out.mono ?_
      rintro e w6 ⟨he, hB6⟩
      rw [decide_eq_true (show l = restL l id from HX5.out.2.1.symm)] at he
      obtain rfl := he
      have HBB := Lib.hid (HX5.out.2.2.1.trans ((HB5.out.trans (hB6.mono HB5.out.size)).mono HX5.out.2.2.2))
      clear hB6 HSM HB5 HX5
      go_wp2_with fail
      go_ret
      exact ⟨rfl, HBB.out⟩
end Go.Proofs.Ytagfhlnedaagbaa
