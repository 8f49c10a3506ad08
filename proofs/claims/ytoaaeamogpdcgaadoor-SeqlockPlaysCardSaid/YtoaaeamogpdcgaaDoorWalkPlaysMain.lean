/-
  SeqlockPlays answers true.
-/
import Derived.Test.YtoaaeamogpdcgaaDoorSixB
import Derived.Test.YtoaaeamogpdcgaaDoorRefNW
namespace Go.Proofs.YtoaaeamogpdcgaaDoor
open Go.RowKit

structure Hd_ (P : Prop) : Prop where
  out : P
structure Cut_WalkPlays (M : Prop) where
  F0 : Prop
  F1 : Prop
  F2 : Prop
  F3 : Prop
  G : Prop
  A : Prop
  B : Prop
  C : Prop
  D : Prop
  S1 : Prop
  S2 : Prop
  imp : Hd_ F0 → Hd_ F1 → Hd_ F2 → Hd_ F3 → Hd_ G → Hd_ A → Hd_ B → Hd_ C → Hd_ D → Hd_ S1 → Hd_ S2 → M
set_option linter.all false in
set_option maxHeartbeats 8000000 in
set_option maxRecDepth 100000 in
def part_WalkPlays : Cut_WalkPlays (∀ (pa pn pc : Int) (A : Option Addr) (L ca : Nat) (F : Nat → Ver) (P : Option Addr) (np cp : Nat) (pk : Nat → Int) (w : World) (hG : GOk w) (ba : -9223372036854775808 ≤ pa ∧ pa < 9223372036854775808) (bn : -9223372036854775808 ≤ pn ∧ pn < 9223372036854775808) (hx : 0 ≤ pc ∧ pc < 4294967296) (hV : VersN w.heap.size w A L F) (hwf : ∀ i, i < L → Wf (F i).n (F i).v) (hL2 : L ≤ 1000000000000000) (hP : ArgN .u8 w.heap.size w P np pk) (hpk : ∀ i, i < np → 0 ≤ pk i ∧ pk i < 256) (hNp : np ≤ 1000000000000000),
    Calls Tryd.prog 3 #[.agg #[.int .i64 pa, .int .i64 pn, .int .u32 pc], .slice A L ca, .slice P np cp] w fun e w' => e = .returned (.bool true) ∧ Below w.heap.size w w') := ⟨_, _, _, _, _, _, _, _, _, _, _, fun HYPF0 HYPF1 HYPF2 HYPF3 HYPG HYPA HYPB HYPC HYPD HYPS1 HYPS2 => by
  intro pa pn pc A L ca F P np cp pk w hG ba bn hx hV hwf hL2 hP hpk hNp
  have h6 := six_of hG
  have HG := Lib.hid hG
  obtain ⟨W, hW⟩ : ∃ W, W = w.alloc (.cells #[.int .i64 pa, .int .i64 pn, .int .u32 pc] 24) := ⟨_, rfl⟩
  have HN := Lib.hid (new_one 40 (by omega) (by omega) 40 rfl W)
  have HV := Lib.hid hV
  have HWF := Lib.hid hwf
  have HP := Lib.hid hP
  have HPK := Lib.hid hpk
  clear hG hV hwf hP hpk
  go_enter Tryd.func3, Tryd.ntmps3
  go_wp2_with fail
  rw [← hW]
  with_reducible refine HN.out.mono ?_
  rintro e w1 ⟨g, b, rfl, hM1, hg1, hb1, hB1⟩
  have HM1 := Lib.hid hM1
  have HI := Lib.hid (And.intro hg1 hb1)
  have p0 : W.cell? ⟨w.heap.size, 0, none⟩ = some (.int .i64 pa) := by rw [hW]; exact al_new _ _ _ 0 _ rfl rfl
  have p1 : W.cell? ⟨w.heap.size, 1, none⟩ = some (.int .i64 pn) := by rw [hW]; exact al_new _ _ _ 1 _ rfl rfl
  have p2 : W.cell? ⟨w.heap.size, 2, none⟩ = some (.int .u32 pc) := by rw [hW]; exact al_new _ _ _ 2 _ rfl rfl
  have pf : ∀ j, W.frozen? ⟨w.heap.size, j, none⟩ = false := fun j => by rw [hW]; exact frozen_at _ _ _ j _ rfl
  have hWs : W.heap.size = w.heap.size + 1 := by rw [hW]; simp
  have HWB : Hid (Below w.heap.size w W) := Lib.hid (by rw [hW]; exact (Below.refl _ _).alloc (Nat.le_refl _) _)
  have HB1 := Lib.hid hB1
  have HPB := Lib.hid (And.intro p0 (And.intro p1 (And.intro p2 pf)))
  have HWS := Lib.hid hWs
  have HVW : Hid (VersN W.heap.size W A L F) := Lib.hid ((HV.out.keep HWB.out).up (by omega))
  have HPW : Hid (ArgN .u8 W.heap.size W P np pk) := Lib.hid (fun i hi => by
    obtain ⟨b', o', e', hb', hc'⟩ := HP.out.keep HWB.out i hi
    exact ⟨b', o', e', by omega, hc'⟩)
  have HGW : Hid (GOk W) := Lib.hid (HG.out.keep HWB.out)
  clear hM1 hg1 hb1 hB1 HN p0 p1 p2 pf hWs hW
  go_wp2_with fail
  refine (awake_any w1 (HGW.out.keep HB1.out)).mono ?_
  rintro e w2 ⟨rfl, hB2⟩
  have HB2 := Lib.hid (HB1.out.trans (hB2.mono HB1.out.size))
  have HM2 := Lib.hid (HM1.out.keep hB2)
  clear hB2 HM1
  go_wp2_with fail
  by_cases hfew : FewV L F
  · refine (few_yes A L ca F w2 ((HVW.out.keep HB2.out).up HB2.out.size) hfew).mono ?_
    rintro e x1 ⟨rfl, rfl⟩
    have q0 := kept HPB.out.1 HB2.out
    have q1 := kept HPB.out.2.1 HB2.out
    have q2 := kept HPB.out.2.2.1 HB2.out
    have qz := (HB2.out.frozen (p := ⟨w.heap.size, 0, none⟩) (by have := HWS.out; dsimp only; omega)).trans (HPB.out.2.2.2 0)
    have HQ := Lib.hid (And.intro q0 (And.intro q1 q2))
    have hgi := HI.out
    have hwsz := HWS.out
    go_upto_region 4 with fail
    go_cut [47] (fun bv wx => bv = .bool (decide (pa < -100 ∨ 100 < pa)) ∧ w2 = wx)
    case first =>
        repeat (rename_i zz; revert zz)
        (try revert A); (try revert And); (try revert ArgN); (try revert Below); (try revert F); (try revert FewV); (try revert GOk); (try revert HB1); (try revert HB2); (try revert HG); (try revert HGW); (try revert HI); (try revert HM1); (try revert HM2); (try revert HN); (try revert HP); (try revert HPB); (try revert HPK); (try revert HPW); (try revert HQ); (try revert HV); (try revert HVW); (try revert HWB); (try revert HWF); (try revert HWS)
        (try revert Hid); (try revert L); (try revert Lib); (try revert Nat); (try revert P); (try revert Tryd); (try revert VersN); (try revert W); (try revert al_new); (try revert awake_any); (try revert b); (try revert b'); (try revert ba); (try revert bn); (try revert bv); (try revert by_cases); (try revert ca); (try revert cp); (try revert e); (try revert e'); (try revert fail); (try revert few_yes); (try revert frozen_at); (try revert g); (try revert h6)
        (try revert hB1); (try revert hB2); (try revert hG); (try revert hHeld); (try revert hL2); (try revert hM1); (try revert hNp); (try revert hP); (try revert hV); (try revert hW); (try revert hWs); (try revert hb'); (try revert hb1); (try revert hc'); (try revert hcut); (try revert hfew); (try revert hg1); (try revert hgi); (try revert hi); (try revert hpk); (try revert hrel); (try revert hwf); (try revert hwsz); (try revert hx); (try revert i)
        (try revert j); (try revert kept); (try revert new_one); (try revert none); (try revert np); (try revert nq); (try revert o'); (try revert p); (try revert p0); (try revert p1); (try revert p2); (try revert pa); (try revert pc); (try revert pf); (try revert pk); (try revert pn); (try revert q0); (try revert q1); (try revert q2); (try revert qz); (try revert six_of); (try revert some); (try revert u0); (try revert u1); (try revert u10)
        (try revert u100); (try revert u101); (try revert u102); (try revert u103); (try revert u104); (try revert u105); (try revert u106); (try revert u107); (try revert u108); (try revert u109); (try revert u11); (try revert u110); (try revert u111); (try revert u112); (try revert u113); (try revert u114); (try revert u115); (try revert u116); (try revert u117); (try revert u118); (try revert u119); (try revert u12); (try revert u120); (try revert u121); (try revert u122)
        (try revert u123); (try revert u124); (try revert u125); (try revert u126); (try revert u127); (try revert u128); (try revert u129); (try revert u13); (try revert u130); (try revert u131); (try revert u132); (try revert u133); (try revert u134); (try revert u135); (try revert u136); (try revert u137); (try revert u138); (try revert u139); (try revert u14); (try revert u140); (try revert u141); (try revert u142); (try revert u143); (try revert u144); (try revert u145)
        (try revert u146); (try revert u147); (try revert u148); (try revert u149); (try revert u15); (try revert u150); (try revert u151); (try revert u152); (try revert u153); (try revert u154); (try revert u155); (try revert u156); (try revert u157); (try revert u158); (try revert u159); (try revert u16); (try revert u160); (try revert u161); (try revert u162); (try revert u163); (try revert u164); (try revert u165); (try revert u166); (try revert u167); (try revert u168)
        (try revert u169); (try revert u17); (try revert u170); (try revert u171); (try revert u172); (try revert u173); (try revert u174); (try revert u175); (try revert u176); (try revert u177); (try revert u178); (try revert u179); (try revert u18); (try revert u180); (try revert u181); (try revert u182); (try revert u183); (try revert u184); (try revert u185); (try revert u186); (try revert u187); (try revert u188); (try revert u189); (try revert u19); (try revert u190)
        (try revert u191); (try revert u192); (try revert u193); (try revert u194); (try revert u195); (try revert u196); (try revert u197); (try revert u198); (try revert u199); (try revert u2); (try revert u20); (try revert u200); (try revert u201); (try revert u202); (try revert u203); (try revert u204); (try revert u205); (try revert u206); (try revert u207); (try revert u208); (try revert u209); (try revert u21); (try revert u210); (try revert u211); (try revert u212)
        (try revert u213); (try revert u214); (try revert u215); (try revert u216); (try revert u217); (try revert u218); (try revert u219); (try revert u22); (try revert u220); (try revert u221); (try revert u222); (try revert u223); (try revert u224); (try revert u225); (try revert u226); (try revert u227); (try revert u228); (try revert u229); (try revert u23); (try revert u230); (try revert u231); (try revert u232); (try revert u233); (try revert u234); (try revert u235)
        (try revert u236); (try revert u237); (try revert u238); (try revert u239); (try revert u24); (try revert u240); (try revert u241); (try revert u242); (try revert u243); (try revert u244); (try revert u245); (try revert u246); (try revert u247); (try revert u248); (try revert u249); (try revert u25); (try revert u250); (try revert u251); (try revert u252); (try revert u253); (try revert u254); (try revert u255); (try revert u256); (try revert u257); (try revert u258)
        (try revert u259); (try revert u26); (try revert u260); (try revert u261); (try revert u262); (try revert u263); (try revert u264); (try revert u265); (try revert u266); (try revert u267); (try revert u268); (try revert u269); (try revert u27); (try revert u270); (try revert u271); (try revert u272); (try revert u273); (try revert u274); (try revert u275); (try revert u276); (try revert u277); (try revert u278); (try revert u279); (try revert u28); (try revert u280)
        (try revert u281); (try revert u282); (try revert u283); (try revert u284); (try revert u285); (try revert u286); (try revert u287); (try revert u288); (try revert u289); (try revert u29); (try revert u290); (try revert u291); (try revert u292); (try revert u293); (try revert u294); (try revert u295); (try revert u296); (try revert u297); (try revert u298); (try revert u299); (try revert u3); (try revert u30); (try revert u31); (try revert u32); (try revert u33)
        (try revert u34); (try revert u35); (try revert u36); (try revert u37); (try revert u38); (try revert u39); (try revert u4); (try revert u40); (try revert u41); (try revert u42); (try revert u43); (try revert u44); (try revert u45); (try revert u46); (try revert u47); (try revert u48); (try revert u49); (try revert u5); (try revert u50); (try revert u51); (try revert u52); (try revert u53); (try revert u54); (try revert u55); (try revert u56)
        (try revert u57); (try revert u58); (try revert u59); (try revert u6); (try revert u60); (try revert u61); (try revert u62); (try revert u63); (try revert u64); (try revert u65); (try revert u66); (try revert u67); (try revert u68); (try revert u69); (try revert u7); (try revert u70); (try revert u71); (try revert u72); (try revert u73); (try revert u74); (try revert u75); (try revert u76); (try revert u77); (try revert u78); (try revert u79)
        (try revert u8); (try revert u80); (try revert u81); (try revert u82); (try revert u83); (try revert u84); (try revert u85); (try revert u86); (try revert u87); (try revert u88); (try revert u89); (try revert u9); (try revert u90); (try revert u91); (try revert u92); (try revert u93); (try revert u94); (try revert u95); (try revert u96); (try revert u97); (try revert u98); (try revert u99); (try revert w); (try revert w1); (try revert w2)
        (try revert wc); (try revert wq); (try revert wr); (try revert wx); (try revert x1)
        repeat (rename_i zz; revert zz)
        exact HYPF0.out
    case rest =>
        try clear HYPF0
        obtain ⟨rfl, rfl⟩ := hcut
        obtain ⟨z, hz⟩ : ∃ z : Bool, z = decide (pa < -100 ∨ 100 < pa) := ⟨_, rfl⟩
        have HZ := Lib.hid hz
        rw [← hz]
        have hbw := HWB.out.trans (HB2.out.mono (show w.heap.size ≤ W.heap.size by omega))
        have HBW := Lib.hid hbw
        clear hz hbw
        go_upto_if 47 with fail
        go_cut [] (fun wx => ∃ a : Int, -100 ≤ a ∧ a ≤ 100 ∧ wx.cell? ⟨w.heap.size, 0, none⟩ = some (.int .i64 a) ∧ wx.cell? ⟨w.heap.size, 1, none⟩ = some (.int .i64 pn) ∧ wx.cell? ⟨w.heap.size, 2, none⟩ = some (.int .u32 pc) ∧ MemAt wx g b 40 (fun _ => 0) 0 ∧ Below w.heap.size w wx)
        case first =>
            try clear HYPF0
            repeat (rename_i zz; revert zz)
            (try revert A); (try revert And); (try revert ArgN); (try revert Below); (try revert Bool); (try revert F); (try revert FewV); (try revert GOk); (try revert HB1); (try revert HB2); (try revert HBW); (try revert HG); (try revert HGW); (try revert HI); (try revert HM1); (try revert HM2); (try revert HN); (try revert HP); (try revert HPB); (try revert HPK); (try revert HPW); (try revert HQ); (try revert HV); (try revert HVW); (try revert HWB)
            (try revert HWF); (try revert HWS); (try revert HZ); (try revert Hid); (try revert Int); (try revert L); (try revert Lib); (try revert MemAt); (try revert Nat); (try revert P); (try revert Tryd); (try revert VersN); (try revert W); (try revert a); (try revert al_new); (try revert awake_any); (try revert b); (try revert b'); (try revert ba); (try revert bn); (try revert bv); (try revert by_cases); (try revert ca); (try revert cp); (try revert e)
            (try revert e'); (try revert fail); (try revert few_yes); (try revert frozen_at); (try revert g); (try revert h6); (try revert hB1); (try revert hB2); (try revert hG); (try revert hHeld); (try revert hL2); (try revert hM1); (try revert hNp); (try revert hP); (try revert hV); (try revert hW); (try revert hWs); (try revert hb'); (try revert hb1); (try revert hbw); (try revert hc'); (try revert hcut); (try revert hfew); (try revert hg1); (try revert hgi)
            (try revert hi); (try revert hpk); (try revert hrel); (try revert hwf); (try revert hwsz); (try revert hx); (try revert hz); (try revert i); (try revert j); (try revert kept); (try revert new_one); (try revert none); (try revert np); (try revert nq); (try revert o'); (try revert p); (try revert p0); (try revert p1); (try revert p2); (try revert pa); (try revert pc); (try revert pf); (try revert pk); (try revert pn); (try revert q0)
            (try revert q1); (try revert q2); (try revert qz); (try revert six_of); (try revert some); (try revert u0); (try revert u1); (try revert u10); (try revert u100); (try revert u101); (try revert u102); (try revert u103); (try revert u104); (try revert u105); (try revert u106); (try revert u107); (try revert u108); (try revert u109); (try revert u11); (try revert u110); (try revert u111); (try revert u112); (try revert u113); (try revert u114); (try revert u115)
            (try revert u116); (try revert u117); (try revert u118); (try revert u119); (try revert u12); (try revert u120); (try revert u121); (try revert u122); (try revert u123); (try revert u124); (try revert u125); (try revert u126); (try revert u127); (try revert u128); (try revert u129); (try revert u13); (try revert u130); (try revert u131); (try revert u132); (try revert u133); (try revert u134); (try revert u135); (try revert u136); (try revert u137); (try revert u138)
            (try revert u139); (try revert u14); (try revert u140); (try revert u141); (try revert u142); (try revert u143); (try revert u144); (try revert u145); (try revert u146); (try revert u147); (try revert u148); (try revert u149); (try revert u15); (try revert u150); (try revert u151); (try revert u152); (try revert u153); (try revert u154); (try revert u155); (try revert u156); (try revert u157); (try revert u158); (try revert u159); (try revert u16); (try revert u160)
            (try revert u161); (try revert u162); (try revert u163); (try revert u164); (try revert u165); (try revert u166); (try revert u167); (try revert u168); (try revert u169); (try revert u17); (try revert u170); (try revert u171); (try revert u172); (try revert u173); (try revert u174); (try revert u175); (try revert u176); (try revert u177); (try revert u178); (try revert u179); (try revert u18); (try revert u180); (try revert u181); (try revert u182); (try revert u183)
            (try revert u184); (try revert u185); (try revert u186); (try revert u187); (try revert u188); (try revert u189); (try revert u19); (try revert u190); (try revert u191); (try revert u192); (try revert u193); (try revert u194); (try revert u195); (try revert u196); (try revert u197); (try revert u198); (try revert u199); (try revert u2); (try revert u20); (try revert u200); (try revert u201); (try revert u202); (try revert u203); (try revert u204); (try revert u205)
            (try revert u206); (try revert u207); (try revert u208); (try revert u209); (try revert u21); (try revert u210); (try revert u211); (try revert u212); (try revert u213); (try revert u214); (try revert u215); (try revert u216); (try revert u217); (try revert u218); (try revert u219); (try revert u22); (try revert u220); (try revert u221); (try revert u222); (try revert u223); (try revert u224); (try revert u225); (try revert u226); (try revert u227); (try revert u228)
            (try revert u229); (try revert u23); (try revert u230); (try revert u231); (try revert u232); (try revert u233); (try revert u234); (try revert u235); (try revert u236); (try revert u237); (try revert u238); (try revert u239); (try revert u24); (try revert u240); (try revert u241); (try revert u242); (try revert u243); (try revert u244); (try revert u245); (try revert u246); (try revert u247); (try revert u248); (try revert u249); (try revert u25); (try revert u250)
            (try revert u251); (try revert u252); (try revert u253); (try revert u254); (try revert u255); (try revert u256); (try revert u257); (try revert u258); (try revert u259); (try revert u26); (try revert u260); (try revert u261); (try revert u262); (try revert u263); (try revert u264); (try revert u265); (try revert u266); (try revert u267); (try revert u268); (try revert u269); (try revert u27); (try revert u270); (try revert u271); (try revert u272); (try revert u273)
            (try revert u274); (try revert u275); (try revert u276); (try revert u277); (try revert u278); (try revert u279); (try revert u28); (try revert u280); (try revert u281); (try revert u282); (try revert u283); (try revert u284); (try revert u285); (try revert u286); (try revert u287); (try revert u288); (try revert u289); (try revert u29); (try revert u290); (try revert u291); (try revert u292); (try revert u293); (try revert u294); (try revert u295); (try revert u296)
            (try revert u297); (try revert u298); (try revert u299); (try revert u3); (try revert u30); (try revert u31); (try revert u32); (try revert u33); (try revert u34); (try revert u35); (try revert u36); (try revert u37); (try revert u38); (try revert u39); (try revert u4); (try revert u40); (try revert u41); (try revert u42); (try revert u43); (try revert u44); (try revert u45); (try revert u46); (try revert u47); (try revert u48); (try revert u49)
            (try revert u5); (try revert u50); (try revert u51); (try revert u52); (try revert u53); (try revert u54); (try revert u55); (try revert u56); (try revert u57); (try revert u58); (try revert u59); (try revert u6); (try revert u60); (try revert u61); (try revert u62); (try revert u63); (try revert u64); (try revert u65); (try revert u66); (try revert u67); (try revert u68); (try revert u69); (try revert u7); (try revert u70); (try revert u71)
            (try revert u72); (try revert u73); (try revert u74); (try revert u75); (try revert u76); (try revert u77); (try revert u78); (try revert u79); (try revert u8); (try revert u80); (try revert u81); (try revert u82); (try revert u83); (try revert u84); (try revert u85); (try revert u86); (try revert u87); (try revert u88); (try revert u89); (try revert u9); (try revert u90); (try revert u91); (try revert u92); (try revert u93); (try revert u94)
            (try revert u95); (try revert u96); (try revert u97); (try revert u98); (try revert u99); (try revert w); (try revert w1); (try revert w2); (try revert wc); (try revert wq); (try revert wr); (try revert wx); (try revert x1); (try revert z)
            repeat (rename_i zz; revert zz)
            exact HYPF1.out
        case rest =>
            try clear HYPF0
            try clear HYPF1
            obtain ⟨a, ha1, ha2, q0, q1, q2, hM3, hB3⟩ := hcut
            have HAA := Lib.hid (And.intro ha1 ha2)
            have HM3 := Lib.hid hM3
            have HB3 := Lib.hid hB3
            have hsz3 := cell_lt q0
            have HFEW := Lib.hid hfew
            clear hM3 hB3 HZ HQ HM2 HBW HPB HB2 HB1 HVW HPW HGW hfew
            go_wp2_with fail
            refine (neww_sim a A L ca F wc ((HV.out.keep HB3.out).up HB3.out.size) HFEW.out HWF.out (by omega)).mono ?_
            rintro e w3 ⟨hB4, h4⟩
            have p0 := kept q0 hB4
            have p1 := kept q1 hB4
            have p2 := kept q2 hB4
            have HM4 := Lib.hid (HM3.out.keep hB4)
            have HMLT := Lib.hid (And.intro HM3.out.ltg HM3.out.row.lt)
            have HB4 := Lib.hid (HB3.out.trans (hB4.mono HB3.out.size))
            have HSZ := Lib.hid (And.intro hsz3 hB4.size)
            clear hB4 hsz3 q0 q1 q2
            rcases h4 with ⟨hok, B, A', ca', s, rfl, hB1, hB2', hW, hA', hvf, hws, hsn⟩ | ⟨⟨ib, hib, hbad⟩, rfl⟩
            · try clear HYPF0
              try clear HYPF1
              have HW3 := Lib.hid hW
              have HWI := Lib.hid (And.intro hB1 (And.intro hB2' (And.intro hA' (And.intro hvf (And.intro hws hsn)))))
              have HOK := Lib.hid hok
              clear hok hB1 hB2' hW hA' hvf hws hsn
              go_wp2_with fail
              refine (dnew_any a A L ca F w3 ((HV.out.keep HB4.out).up HB4.out.size) HFEW.out.1 (by have := HAA.out; omega)).mono ?_
              rintro e w4 ⟨hB5, h5⟩
              rcases h5 with ⟨_, va, vv, vd, ve, rfl, hR4⟩ | ⟨⟨i, hi, hn⟩, v, rfl⟩
              rotate_left
              · try clear HYPF0
                try clear HYPF1
                exact absurd (HOK.out i hi) hn
              obtain ⟨pA, cA, pV, cV, pD, cD, pE, cE, rfl, rfl, rfl, rfl, hdO, b1, b2, b3, b4⟩ := dw_rows2 hR4
              have HDO := Lib.hid (And.intro hdO (And.intro b1 (And.intro b2 (And.intro b3 b4))))
              have p0' := kept p0 hB5
              have p1' := kept p1 hB5
              have p2' := kept p2 hB5
              have HM5 := Lib.hid (HM4.out.keep hB5)
              have HW5 := Lib.hid (HW3.out.keep hB5)
              have HB5 := Lib.hid (HB4.out.trans (hB5.mono HB4.out.size))
              have HSZ5 := Lib.hid hB5.size
              obtain ⟨M, hM⟩ : ∃ M, M = L * ((F 0).n + 2) := ⟨_, rfl⟩
              rw [← hM] at HDO ⊢
              have HMM := Lib.hid hM
              clear hB5 hR4 hdO b1 b2 b3 b4 p0 p1 p2 hM
              have hpl : w.heap.size < w4.heap.size := cell_lt p0'
              by_cases hN : 1 ≤ pn ∧ pn ≤ 32
              · try clear HYPF0
                try clear HYPF1
                obtain ⟨nn, hnn⟩ : ∃ nn : Nat, pn = nn := ⟨pn.toNat, by omega⟩
                obtain ⟨W4, hW4⟩ : ∃ W4, W4 = w4.alloc (.cells #[.slice pA M cA, .slice pV M cV, .slice pD M cD, .slice pE M cE, .int .i64 0, .bool false] 40) := ⟨_, rfl⟩
                have hB45 : Below w4.heap.size w4 W4 := by rw [hW4]; exact (Below.refl _ _).alloc (Nat.le_refl _) _
                have hvb : Box6 W4 w4.heap.size ⟨pA, cA, pV, cV, pD, cD, pE, cE, M, 0, false⟩ := by
                  rw [hW4]
                  exact ⟨al_new _ _ _ 0 _ rfl rfl, al_new _ _ _ 1 _ rfl rfl, al_new _ _ _ 2 _ rfl rfl, al_new _ _ _ 3 _ rfl rfl, al_new _ _ _ 4 _ rfl rfl, al_new _ _ _ 5 _ rfl rfl⟩
                have hvf : ∀ j, W4.frozen? ⟨w4.heap.size, j, none⟩ = false := fun j => by rw [hW4]; exact frozen_at _ _ _ j _ rfl
                have hWs4 : W4.heap.size = w4.heap.size + 1 := by rw [hW4]; simp
                have HW4 := Lib.hid hW4
                have HVB := Lib.hid (And.intro hvb (And.intro hvf (And.intro hWs4 hB45)))
                have HNN := Lib.hid hnn
                have HNR := Lib.hid hN
                have HPP := Lib.hid (And.intro (kept p0' hB45) (And.intro (kept p1' hB45) (kept p2' hB45)))
                have P0 := True.intro
                have P1 := True.intro
                have P2 := True.intro
                clear hvb hvf hWs4 hB45 hW4 hnn P0 P1 P2
                go_wp2_with fail
                rw [← HW4.out]
                refine (newr_yes a pn nn W4 HNN.out (by have := HNN.out; omega) (by have := HNN.out; omega) (by have := HAA.out; omega)).mono ?_
                rintro e w5 ⟨rfl, hR5, hB6, hs6⟩
                have k0 := kept HPP.out.1 hB6
                have k1 := kept HPP.out.2.1 hB6
                have k2 := kept HPP.out.2.2 hB6
                have HR5 := Lib.hid (And.intro hR5 (And.intro hB6 hs6))
                clear hR5 hB6 hs6 p0' p1' p2'
                go_wp2_with fail
                refine (dwords_any pn w5).mono ?_
                rintro e x1 ⟨rfl, rfl⟩
                rw [fitB_yes HNR.out]
                clear hN
                have hmk : ∀ W, Sem.run Tryd.prog (Instr.makeSlice 37 (.int .i64 40) (.int .i64 40)) W = _ := fun W => run_make_row' (P := Tryd.prog) 37 22 (.int .u32 0) 4 Tryd.underlying37 info22 rfl .i64 .i64 40 (by omega) (by omega) W
                have hB5 := HR5.out.2.1
                have hs5 := HR5.out.2.2
                have hv4 := HVB.out.2.2.1
                have HB6 := Lib.hid (HB5.out.trans ((HVB.out.2.2.2.trans (hB5.mono (by omega))).mono HB5.out.size))
                have hwb := HWI.out
                have hwA := hwb.2.2.1
                have hwlt := HSZ5.out
                have hmlt := HMLT.out
                have hszz := HSZ.out
                have hgg := HI.out
                have hwws := HWS.out
                have hW5 := (HW5.out.keep HVB.out.2.2.2).keep hB5
                have hM5 := (HM5.out.keep HVB.out.2.2.2).keep hB5
                have HSQ : Hid (Sq (w.heap.size + 1) w5 ⟨g, b, 40, B, W4.heap.size, A', ca'⟩ (fun _ => 0) 0 s (rd0 a nn)) := Lib.hid ⟨⟨0, by omega, by omega, hM5⟩, hW5, HR5.out.1, HG.out.keep HB6.out, fun i hi => by decide, hwb.2.2.2.1, by (dsimp only; omega), by (dsimp only; omega), fun x o e => by (have := hwA x o e; dsimp only; omega), by (show 40 ≤ 4096; omega)⟩
                have HVB5 : Hid (Box6 w5 w4.heap.size ⟨pA, cA, pV, cV, pD, cD, pE, cE, M, 0, false⟩) := Lib.hid (HVB.out.1.same (hB5.block _ (by omega)))
                have HVF5 : Hid (∀ j, w5.frozen? ⟨w4.heap.size, j, none⟩ = false) := Lib.hid fun j => (hB5.frozen (p := ⟨w4.heap.size, j, none⟩) (by (dsimp only; omega))).trans (HVB.out.2.1 j)
                have HDO5 := Lib.hid ((HDO.out.1.keep HVB.out.2.2.2).keep hB5)
                have HK := Lib.hid (And.intro k0 (And.intro k1 k2))
                clear hB5 hs5 hv4 hwb hwA hwlt hmlt hszz hgg hwws hW5 hM5
                go_upto_region 14 with fail
                have hW6 := us_made w5 40
                have hF6 : ∀ j, (w5.alloc (.cells (madeCells #[.int .u32 0] 40) 22)).frozen? ⟨w5.heap.size, j, none⟩ = false := fun j => frozen_at _ _ _ j _ rfl
                obtain ⟨W6, hw6⟩ : ∃ W6, W6 = w5.alloc (.cells (madeCells #[.int .u32 0] 40) 22) := ⟨_, rfl⟩
                have hB56 : Below w5.heap.size w5 W6 := by rw [hw6]; exact (Below.refl _ _).alloc (Nat.le_refl _) _
                have hs6 : W6.heap.size = w5.heap.size + 1 := by rw [hw6]; simp
                rw [← hw6] at hW6 hF6 ⊢
                have k0 := kept HK.out.1 hB56
                have k1 := kept HK.out.2.1 hB56
                have k2 := kept HK.out.2.2 hB56
                have HF6 := Lib.hid hF6
                have HU6 := Lib.hid hW6
                have HS6 := Lib.hid hs6
                have HB56 := Lib.hid hB56
                have HK6 := Lib.hid (And.intro k0 (And.intro k1 k2))
                clear hW6 hF6 hB56 hs6 hw6 hmk
                go_cut [118] (fun bv wx => bv = .bool (decide (0 ≤ a ∧ a < 40)) ∧ W6 = wx)
                case first =>
                    try clear HYPF0
                    try clear HYPF1
                    repeat (rename_i zz; revert zz)
                    (try revert A); (try revert A'); (try revert And); (try revert ArgN); (try revert B); (try revert Below); (try revert Bool); (try revert Box6); (try revert F); (try revert FewV); (try revert GOk); (try revert HAA); (try revert HB1); (try revert HB2); (try revert HB3); (try revert HB4); (try revert HB5); (try revert HB56); (try revert HB6); (try revert HBW); (try revert HDO); (try revert HDO5); (try revert HF6); (try revert HFEW); (try revert HG)
                    (try revert HGW); (try revert HI); (try revert HK); (try revert HK6); (try revert HM1); (try revert HM2); (try revert HM3); (try revert HM4); (try revert HM5); (try revert HMLT); (try revert HMM); (try revert HN); (try revert HNN); (try revert HNR); (try revert HOK); (try revert HP); (try revert HPB); (try revert HPK); (try revert HPP); (try revert HPW); (try revert HQ); (try revert HR5); (try revert HS6); (try revert HSQ); (try revert HSZ)
                    (try revert HSZ5); (try revert HU6); (try revert HV); (try revert HVB); (try revert HVB5); (try revert HVF5); (try revert HVW); (try revert HW3); (try revert HW4); (try revert HW5); (try revert HWB); (try revert HWF); (try revert HWI); (try revert HWS); (try revert HZ); (try revert Hid); (try revert Instr); (try revert Int); (try revert L); (try revert Lib); (try revert M); (try revert MemAt); (try revert Nat); (try revert P); (try revert P0)
                    (try revert P1); (try revert P2); (try revert Sem); (try revert Sq); (try revert True); (try revert Tryd); (try revert VersN); (try revert W); (try revert W4); (try revert W6); (try revert a); (try revert absurd); (try revert al_new); (try revert awake_any); (try revert b); (try revert b'); (try revert b1); (try revert b2); (try revert b3); (try revert b4); (try revert ba); (try revert bn); (try revert bv); (try revert by_cases); (try revert cA)
                    (try revert cD); (try revert cE); (try revert cV); (try revert ca); (try revert ca'); (try revert cell_lt); (try revert cp); (try revert dnew_any); (try revert dw_rows2); (try revert dwords_any); (try revert e); (try revert e'); (try revert fail); (try revert few_yes); (try revert fitB_yes); (try revert frozen_at); (try revert g); (try revert h4); (try revert h5); (try revert h6); (try revert hA'); (try revert hB1); (try revert hB2); (try revert hB2'); (try revert hB3)
                    (try revert hB4); (try revert hB45); (try revert hB5); (try revert hB56); (try revert hB6); (try revert hF6); (try revert hG); (try revert hHeld); (try revert hL2); (try revert hM); (try revert hM1); (try revert hM3); (try revert hM5); (try revert hN); (try revert hNp); (try revert hP); (try revert hR4); (try revert hR5); (try revert hV); (try revert hW); (try revert hW4); (try revert hW5); (try revert hW6); (try revert hWs); (try revert hWs4)
                    (try revert ha1); (try revert ha2); (try revert hb'); (try revert hb1); (try revert hbad); (try revert hbw); (try revert hc'); (try revert hcut); (try revert hdO); (try revert hfew); (try revert hg1); (try revert hgg); (try revert hgi); (try revert hi); (try revert hib); (try revert hmk); (try revert hmlt); (try revert hn); (try revert hnn); (try revert hok); (try revert hpk); (try revert hpl); (try revert hrel); (try revert hs5); (try revert hs6)
                    (try revert hsn); (try revert hsz3); (try revert hszz); (try revert hv4); (try revert hvb); (try revert hvf); (try revert hw6); (try revert hwA); (try revert hwb); (try revert hwf); (try revert hwlt); (try revert hws); (try revert hwsz); (try revert hwws); (try revert hx); (try revert hz); (try revert i); (try revert ib); (try revert info22); (try revert j); (try revert k0); (try revert k1); (try revert k2); (try revert kept); (try revert madeCells)
                    (try revert n); (try revert new_one); (try revert newr_yes); (try revert neww_sim); (try revert nn); (try revert none); (try revert np); (try revert nq); (try revert o); (try revert o'); (try revert p); (try revert p0); (try revert p0'); (try revert p1); (try revert p1'); (try revert p2); (try revert p2'); (try revert pA); (try revert pD); (try revert pE); (try revert pV); (try revert pa); (try revert pc); (try revert pf); (try revert pk)
                    (try revert pn); (try revert q0); (try revert q1); (try revert q2); (try revert qz); (try revert rd0); (try revert rotate_left); (try revert run_make_row'); (try revert s); (try revert six_of); (try revert some); (try revert u0); (try revert u1); (try revert u10); (try revert u100); (try revert u101); (try revert u102); (try revert u103); (try revert u104); (try revert u105); (try revert u106); (try revert u107); (try revert u108); (try revert u109); (try revert u11)
                    (try revert u110); (try revert u111); (try revert u112); (try revert u113); (try revert u114); (try revert u115); (try revert u116); (try revert u117); (try revert u118); (try revert u119); (try revert u12); (try revert u120); (try revert u121); (try revert u122); (try revert u123); (try revert u124); (try revert u125); (try revert u126); (try revert u127); (try revert u128); (try revert u129); (try revert u13); (try revert u130); (try revert u131); (try revert u132)
                    (try revert u133); (try revert u134); (try revert u135); (try revert u136); (try revert u137); (try revert u138); (try revert u139); (try revert u14); (try revert u140); (try revert u141); (try revert u142); (try revert u143); (try revert u144); (try revert u145); (try revert u146); (try revert u147); (try revert u148); (try revert u149); (try revert u15); (try revert u150); (try revert u151); (try revert u152); (try revert u153); (try revert u154); (try revert u155)
                    (try revert u156); (try revert u157); (try revert u158); (try revert u159); (try revert u16); (try revert u160); (try revert u161); (try revert u162); (try revert u163); (try revert u164); (try revert u165); (try revert u166); (try revert u167); (try revert u168); (try revert u169); (try revert u17); (try revert u170); (try revert u171); (try revert u172); (try revert u173); (try revert u174); (try revert u175); (try revert u176); (try revert u177); (try revert u178)
                    (try revert u179); (try revert u18); (try revert u180); (try revert u181); (try revert u182); (try revert u183); (try revert u184); (try revert u185); (try revert u186); (try revert u187); (try revert u188); (try revert u189); (try revert u19); (try revert u190); (try revert u191); (try revert u192); (try revert u193); (try revert u194); (try revert u195); (try revert u196); (try revert u197); (try revert u198); (try revert u199); (try revert u2); (try revert u20)
                    (try revert u200); (try revert u201); (try revert u202); (try revert u203); (try revert u204); (try revert u205); (try revert u206); (try revert u207); (try revert u208); (try revert u209); (try revert u21); (try revert u210); (try revert u211); (try revert u212); (try revert u213); (try revert u214); (try revert u215); (try revert u216); (try revert u217); (try revert u218); (try revert u219); (try revert u22); (try revert u220); (try revert u221); (try revert u222)
                    (try revert u223); (try revert u224); (try revert u225); (try revert u226); (try revert u227); (try revert u228); (try revert u229); (try revert u23); (try revert u230); (try revert u231); (try revert u232); (try revert u233); (try revert u234); (try revert u235); (try revert u236); (try revert u237); (try revert u238); (try revert u239); (try revert u24); (try revert u240); (try revert u241); (try revert u242); (try revert u243); (try revert u244); (try revert u245)
                    (try revert u246); (try revert u247); (try revert u248); (try revert u249); (try revert u25); (try revert u250); (try revert u251); (try revert u252); (try revert u253); (try revert u254); (try revert u255); (try revert u256); (try revert u257); (try revert u258); (try revert u259); (try revert u26); (try revert u260); (try revert u261); (try revert u262); (try revert u263); (try revert u264); (try revert u265); (try revert u266); (try revert u267); (try revert u268)
                    (try revert u269); (try revert u27); (try revert u270); (try revert u271); (try revert u272); (try revert u273); (try revert u274); (try revert u275); (try revert u276); (try revert u277); (try revert u278); (try revert u279); (try revert u28); (try revert u280); (try revert u281); (try revert u282); (try revert u283); (try revert u284); (try revert u285); (try revert u286); (try revert u287); (try revert u288); (try revert u289); (try revert u29); (try revert u290)
                    (try revert u291); (try revert u292); (try revert u293); (try revert u294); (try revert u295); (try revert u296); (try revert u297); (try revert u298); (try revert u299); (try revert u3); (try revert u30); (try revert u31); (try revert u32); (try revert u33); (try revert u34); (try revert u35); (try revert u36); (try revert u37); (try revert u38); (try revert u39); (try revert u4); (try revert u40); (try revert u41); (try revert u42); (try revert u43)
                    (try revert u44); (try revert u45); (try revert u46); (try revert u47); (try revert u48); (try revert u49); (try revert u5); (try revert u50); (try revert u51); (try revert u52); (try revert u53); (try revert u54); (try revert u55); (try revert u56); (try revert u57); (try revert u58); (try revert u59); (try revert u6); (try revert u60); (try revert u61); (try revert u62); (try revert u63); (try revert u64); (try revert u65); (try revert u66)
                    (try revert u67); (try revert u68); (try revert u69); (try revert u7); (try revert u70); (try revert u71); (try revert u72); (try revert u73); (try revert u74); (try revert u75); (try revert u76); (try revert u77); (try revert u78); (try revert u79); (try revert u8); (try revert u80); (try revert u81); (try revert u82); (try revert u83); (try revert u84); (try revert u85); (try revert u86); (try revert u87); (try revert u88); (try revert u89)
                    (try revert u9); (try revert u90); (try revert u91); (try revert u92); (try revert u93); (try revert u94); (try revert u95); (try revert u96); (try revert u97); (try revert u98); (try revert u99); (try revert us_made); (try revert v); (try revert va); (try revert vd); (try revert ve); (try revert vv); (try revert w); (try revert w1); (try revert w2); (try revert w3); (try revert w4); (try revert w5); (try revert wc); (try revert wq)
                    (try revert wr); (try revert wx); (try revert x); (try revert x1); (try revert z)
                    repeat (rename_i zz; revert zz)
                    exact HYPF2.out
                case rest =>
                    try clear HYPF0
                    try clear HYPF1
                    try clear HYPF2
                    obtain ⟨rfl, rfl⟩ := hcut
                    obtain ⟨z, hz⟩ : ∃ z : Bool, z = decide (0 ≤ a ∧ a < 40) := ⟨_, rfl⟩
                    have HZ := Lib.hid hz
                    rw [← hz]
                    clear hz
                    go_upto_if 118 with fail
                    go_cut [] (fun wx => ∃ (f : Nat → Int) (C : Nat), C ≤ 1 ∧ Sq (w.heap.size + 1) wx ⟨g, b, 40, B, W4.heap.size, A', ca'⟩ f C s (rd0 a nn) ∧ Us wx (some ⟨w5.heap.size, 0, none⟩) 40 f ∧ Chg (fun k => k = g ∨ k = b ∨ k = w5.heap.size) W6 wx)
                    case first =>
                        try clear HYPF0
                        try clear HYPF1
                        try clear HYPF2
                        repeat (rename_i zz; revert zz)
                        (try revert A); (try revert A'); (try revert And); (try revert ArgN); (try revert B); (try revert Below); (try revert Bool); (try revert Box6); (try revert C); (try revert Chg); (try revert F); (try revert FewV); (try revert GOk); (try revert HAA); (try revert HB1); (try revert HB2); (try revert HB3); (try revert HB4); (try revert HB5); (try revert HB56); (try revert HB6); (try revert HBW); (try revert HDO); (try revert HDO5); (try revert HF6)
                        (try revert HFEW); (try revert HG); (try revert HGW); (try revert HI); (try revert HK); (try revert HK6); (try revert HM1); (try revert HM2); (try revert HM3); (try revert HM4); (try revert HM5); (try revert HMLT); (try revert HMM); (try revert HN); (try revert HNN); (try revert HNR); (try revert HOK); (try revert HP); (try revert HPB); (try revert HPK); (try revert HPP); (try revert HPW); (try revert HQ); (try revert HR5); (try revert HS6)
                        (try revert HSQ); (try revert HSZ); (try revert HSZ5); (try revert HU6); (try revert HV); (try revert HVB); (try revert HVB5); (try revert HVF5); (try revert HVW); (try revert HW3); (try revert HW4); (try revert HW5); (try revert HWB); (try revert HWF); (try revert HWI); (try revert HWS); (try revert HZ); (try revert Hid); (try revert Instr); (try revert Int); (try revert L); (try revert Lib); (try revert M); (try revert MemAt); (try revert Nat)
                        (try revert P); (try revert P0); (try revert P1); (try revert P2); (try revert Sem); (try revert Sq); (try revert True); (try revert Tryd); (try revert Us); (try revert VersN); (try revert W); (try revert W4); (try revert W6); (try revert a); (try revert absurd); (try revert al_new); (try revert awake_any); (try revert b); (try revert b'); (try revert b1); (try revert b2); (try revert b3); (try revert b4); (try revert ba); (try revert bn)
                        (try revert bv); (try revert by_cases); (try revert cA); (try revert cD); (try revert cE); (try revert cV); (try revert ca); (try revert ca'); (try revert cell_lt); (try revert cp); (try revert dnew_any); (try revert dw_rows2); (try revert dwords_any); (try revert e); (try revert e'); (try revert f); (try revert fail); (try revert few_yes); (try revert fitB_yes); (try revert frozen_at); (try revert g); (try revert h4); (try revert h5); (try revert h6); (try revert hA')
                        (try revert hB1); (try revert hB2); (try revert hB2'); (try revert hB3); (try revert hB4); (try revert hB45); (try revert hB5); (try revert hB56); (try revert hB6); (try revert hF6); (try revert hG); (try revert hHeld); (try revert hL2); (try revert hM); (try revert hM1); (try revert hM3); (try revert hM5); (try revert hN); (try revert hNp); (try revert hP); (try revert hR4); (try revert hR5); (try revert hV); (try revert hW); (try revert hW4)
                        (try revert hW5); (try revert hW6); (try revert hWs); (try revert hWs4); (try revert ha1); (try revert ha2); (try revert hb'); (try revert hb1); (try revert hbad); (try revert hbw); (try revert hc'); (try revert hcut); (try revert hdO); (try revert hfew); (try revert hg1); (try revert hgg); (try revert hgi); (try revert hi); (try revert hib); (try revert hmk); (try revert hmlt); (try revert hn); (try revert hnn); (try revert hok); (try revert hpk)
                        (try revert hpl); (try revert hrel); (try revert hs5); (try revert hs6); (try revert hsn); (try revert hsz3); (try revert hszz); (try revert hv4); (try revert hvb); (try revert hvf); (try revert hw6); (try revert hwA); (try revert hwb); (try revert hwf); (try revert hwlt); (try revert hws); (try revert hwsz); (try revert hwws); (try revert hx); (try revert hz); (try revert i); (try revert ib); (try revert info22); (try revert j); (try revert k)
                        (try revert k0); (try revert k1); (try revert k2); (try revert kept); (try revert madeCells); (try revert n); (try revert new_one); (try revert newr_yes); (try revert neww_sim); (try revert nn); (try revert none); (try revert np); (try revert nq); (try revert o); (try revert o'); (try revert p); (try revert p0); (try revert p0'); (try revert p1); (try revert p1'); (try revert p2); (try revert p2'); (try revert pA); (try revert pD); (try revert pE)
                        (try revert pV); (try revert pa); (try revert pc); (try revert pf); (try revert pk); (try revert pn); (try revert q0); (try revert q1); (try revert q2); (try revert qz); (try revert rd0); (try revert rotate_left); (try revert run_make_row'); (try revert s); (try revert six_of); (try revert some); (try revert u0); (try revert u1); (try revert u10); (try revert u100); (try revert u101); (try revert u102); (try revert u103); (try revert u104); (try revert u105)
                        (try revert u106); (try revert u107); (try revert u108); (try revert u109); (try revert u11); (try revert u110); (try revert u111); (try revert u112); (try revert u113); (try revert u114); (try revert u115); (try revert u116); (try revert u117); (try revert u118); (try revert u119); (try revert u12); (try revert u120); (try revert u121); (try revert u122); (try revert u123); (try revert u124); (try revert u125); (try revert u126); (try revert u127); (try revert u128)
                        (try revert u129); (try revert u13); (try revert u130); (try revert u131); (try revert u132); (try revert u133); (try revert u134); (try revert u135); (try revert u136); (try revert u137); (try revert u138); (try revert u139); (try revert u14); (try revert u140); (try revert u141); (try revert u142); (try revert u143); (try revert u144); (try revert u145); (try revert u146); (try revert u147); (try revert u148); (try revert u149); (try revert u15); (try revert u150)
                        (try revert u151); (try revert u152); (try revert u153); (try revert u154); (try revert u155); (try revert u156); (try revert u157); (try revert u158); (try revert u159); (try revert u16); (try revert u160); (try revert u161); (try revert u162); (try revert u163); (try revert u164); (try revert u165); (try revert u166); (try revert u167); (try revert u168); (try revert u169); (try revert u17); (try revert u170); (try revert u171); (try revert u172); (try revert u173)
                        (try revert u174); (try revert u175); (try revert u176); (try revert u177); (try revert u178); (try revert u179); (try revert u18); (try revert u180); (try revert u181); (try revert u182); (try revert u183); (try revert u184); (try revert u185); (try revert u186); (try revert u187); (try revert u188); (try revert u189); (try revert u19); (try revert u190); (try revert u191); (try revert u192); (try revert u193); (try revert u194); (try revert u195); (try revert u196)
                        (try revert u197); (try revert u198); (try revert u199); (try revert u2); (try revert u20); (try revert u200); (try revert u201); (try revert u202); (try revert u203); (try revert u204); (try revert u205); (try revert u206); (try revert u207); (try revert u208); (try revert u209); (try revert u21); (try revert u210); (try revert u211); (try revert u212); (try revert u213); (try revert u214); (try revert u215); (try revert u216); (try revert u217); (try revert u218)
                        (try revert u219); (try revert u22); (try revert u220); (try revert u221); (try revert u222); (try revert u223); (try revert u224); (try revert u225); (try revert u226); (try revert u227); (try revert u228); (try revert u229); (try revert u23); (try revert u230); (try revert u231); (try revert u232); (try revert u233); (try revert u234); (try revert u235); (try revert u236); (try revert u237); (try revert u238); (try revert u239); (try revert u24); (try revert u240)
                        (try revert u241); (try revert u242); (try revert u243); (try revert u244); (try revert u245); (try revert u246); (try revert u247); (try revert u248); (try revert u249); (try revert u25); (try revert u250); (try revert u251); (try revert u252); (try revert u253); (try revert u254); (try revert u255); (try revert u256); (try revert u257); (try revert u258); (try revert u259); (try revert u26); (try revert u260); (try revert u261); (try revert u262); (try revert u263)
                        (try revert u264); (try revert u265); (try revert u266); (try revert u267); (try revert u268); (try revert u269); (try revert u27); (try revert u270); (try revert u271); (try revert u272); (try revert u273); (try revert u274); (try revert u275); (try revert u276); (try revert u277); (try revert u278); (try revert u279); (try revert u28); (try revert u280); (try revert u281); (try revert u282); (try revert u283); (try revert u284); (try revert u285); (try revert u286)
                        (try revert u287); (try revert u288); (try revert u289); (try revert u29); (try revert u290); (try revert u291); (try revert u292); (try revert u293); (try revert u294); (try revert u295); (try revert u296); (try revert u297); (try revert u298); (try revert u299); (try revert u3); (try revert u30); (try revert u31); (try revert u32); (try revert u33); (try revert u34); (try revert u35); (try revert u36); (try revert u37); (try revert u38); (try revert u39)
                        (try revert u4); (try revert u40); (try revert u41); (try revert u42); (try revert u43); (try revert u44); (try revert u45); (try revert u46); (try revert u47); (try revert u48); (try revert u49); (try revert u5); (try revert u50); (try revert u51); (try revert u52); (try revert u53); (try revert u54); (try revert u55); (try revert u56); (try revert u57); (try revert u58); (try revert u59); (try revert u6); (try revert u60); (try revert u61)
                        (try revert u62); (try revert u63); (try revert u64); (try revert u65); (try revert u66); (try revert u67); (try revert u68); (try revert u69); (try revert u7); (try revert u70); (try revert u71); (try revert u72); (try revert u73); (try revert u74); (try revert u75); (try revert u76); (try revert u77); (try revert u78); (try revert u79); (try revert u8); (try revert u80); (try revert u81); (try revert u82); (try revert u83); (try revert u84)
                        (try revert u85); (try revert u86); (try revert u87); (try revert u88); (try revert u89); (try revert u9); (try revert u90); (try revert u91); (try revert u92); (try revert u93); (try revert u94); (try revert u95); (try revert u96); (try revert u97); (try revert u98); (try revert u99); (try revert us_made); (try revert v); (try revert va); (try revert vd); (try revert ve); (try revert vv); (try revert w); (try revert w1); (try revert w2)
                        (try revert w3); (try revert w4); (try revert w5); (try revert wc); (try revert wq); (try revert wr); (try revert wx); (try revert x); (try revert x1); (try revert z)
                        repeat (rename_i zz; revert zz)
                        exact HYPF3.out
                    case rest =>
                        try clear HYPF0
                        try clear HYPF1
                        try clear HYPF2
                        try clear HYPF3
                        obtain ⟨f, C, hC1, hSQ6, hU6, hCh⟩ := hcut
                        rename World => wq
                        have hs6 := HS6.out
                        have hgi2 := HI.out
                        have hws2 := HWS.out
                        have hw6 := HWI.out
                        have hsz6 := HSZ.out
                        have hsz52 := HSZ5.out
                        have hv42 := HVB.out.2.2.1
                        have hr52 := HR5.out.2.2
                        have hm6 := HMLT.out
                        have hnn2 := HNN.out
                        have nin : ∀ x, x < w5.heap.size → x ≠ g → x ≠ b → ¬ (x = g ∨ x = b ∨ x = w5.heap.size) := fun x h1 h2 h3 h4 => by omega
                        have kk0 := hCh.cell HK6.out.1 (nin _ (by dsimp only; omega) (by dsimp only; omega) (by dsimp only; omega))
                        have kk1 := hCh.cell HK6.out.2.1 (nin _ (by dsimp only; omega) (by dsimp only; omega) (by dsimp only; omega))
                        have hvb6 := (HVB5.out.same (HB56.out.block _ (by omega))).same (hCh.block w4.heap.size (by omega) (nin _ (by omega) (by omega) (by omega)))
                        have hvf6 : ∀ j, wq.frozen? ⟨w4.heap.size, j, none⟩ = false := fun j => (hCh.frozen (a := ⟨w4.heap.size, j, none⟩) (by dsimp only; omega) (nin _ (by dsimp only; omega) (by dsimp only; omega) (by dsimp only; omega))).trans ((HB56.out.frozen (p := ⟨w4.heap.size, j, none⟩) (by dsimp only; omega)).trans (HVF5.out j))
                        obtain ⟨hdo, hb1, hb2, hb3, hb4⟩ := HDO.out
                        have ofl : ∀ A, (∀ xb xo, A = some ⟨xb, xo, none⟩ → w3.heap.size + 1 + 1 ≤ xb ∧ xb < w4.heap.size) → Off (fun k => k = g ∨ k = b ∨ k = w5.heap.size) A := fun A hA xb xo e hx => by have := hA xb xo e; exact nin xb (by omega) (by omega) (by omega) hx
                        have hdo6 := (HDO5.out.keep HB56.out).chg hCh (ofl _ hb1) (ofl _ hb2) (ofl _ hb3) (ofl _ hb4)
                        have hM6 : M ≤ 1000000 := by
                          have h1 : L * ((F 0).n + 2) ≤ 10 * 34 := by
                            by_cases hL0 : L = 0
                            · try clear HYPF0
                              try clear HYPF1
                              try clear HYPF2
                              try clear HYPF3
                              rw [hL0]; omega
                            · try clear HYPF0
                              try clear HYPF1
                              try clear HYPF2
                              try clear HYPF3
                              exact Nat.mul_le_mul HFEW.out.1 (by have := (HOK.out 0 (by omega)).1.2; omega)
                          have h2 := HMM.out
                          omega
                        have hsz7 := hCh.size
                        have hst := core_start (Bv := w4.heap.size) (d := ⟨pA, cA, pV, cV, pD, cD, pE, cE, M, 0, false⟩) hSQ6 rfl hvb6 hvf6 ⟨by (dsimp only; omega), by (dsimp only; omega), by (dsimp only; omega), by (dsimp only; omega)⟩ (by omega) (hw6.2.2.2.2.1 _ HMM.out rfl rfl) hw6.2.2.2.2.2 hdo6 hM6 (by have := HNR.out; omega) (by omega) hU6 (fun A0 hA0 xb xo xe => by
                          rcases hA0 with rfl | rfl | rfl | rfl | rfl | rfl
                          · try clear HYPF0
                            try clear HYPF1
                            try clear HYPF2
                            try clear HYPF3
                            have := hw6.2.2.1 xb xo xe; dsimp only; omega
                          · try clear HYPF0
                            try clear HYPF1
                            try clear HYPF2
                            try clear HYPF3
                            have := hb1 xb xo xe; dsimp only; omega
                          · try clear HYPF0
                            try clear HYPF1
                            try clear HYPF2
                            try clear HYPF3
                            have := hb2 xb xo xe; dsimp only; omega
                          · try clear HYPF0
                            try clear HYPF1
                            try clear HYPF2
                            try clear HYPF3
                            have := hb3 xb xo xe; dsimp only; omega
                          · try clear HYPF0
                            try clear HYPF1
                            try clear HYPF2
                            try clear HYPF3
                            have := hb4 xb xo xe; dsimp only; omega
                          · try clear HYPF0
                            try clear HYPF1
                            try clear HYPF2
                            try clear HYPF3
                            injection xe with xe; injection xe with xe; dsimp only; omega) _ rfl
                        rw [← hnn2] at hst
                        have HST := Lib.hid hst
                        have HC1 := Lib.hid hC1
                        have HBC := Lib.hid (HB6.out.trans ((HB56.out.mono (show w.heap.size ≤ w5.heap.size by omega)).trans (hCh.below (n := w.heap.size) (fun k hk => by rcases hk with rfl | rfl | rfl <;> omega) (by omega))))
                        clear hs6 hgi2 hws2 hw6 hsz6 hsz52 hv42 hr52 hm6 hnn2 nin hvb6 hvf6 hdo hb1 hb2 hb3 hb4 ofl hdo6 hM6 hsz7 hst hCh hSQ6 hU6 hC1
                        go_wp2_with fail
                        go_loopw [15, 17, 18, 19] (fun lv i _ _ wr => PRel np (w.heap.size + 1) ⟨g, b, 40, B, W4.heap.size, A', ca'⟩ w4.heap.size wq.heap.size a (F 0).n F w lv i wr) (fun _ i _ _ _ => np - (intOf i).toNat)
                        case atStart => exact ⟨0, s, f, rd0 a nn, _, _, _, 40, Nat.zero_le _, by omega, rfl, rfl, HST.out.1.more (by have := HC1.out; omega), HST.out.2.1, HST.out.2.2, Nat.zero_le _, HBC.out.alloc HBC.out.size _⟩
                        case round =>
                          try clear HYPF0
                          try clear HYPF1
                          try clear HYPF2
                          try clear HYPF3
                          obtain ⟨k, s1, f1, r1, d1, e1, U1, cu1, hk, hk2, rfl, rfl, hCo, hb6, hb8, htr, hB⟩ := hrel
                          have HCO := Lib.hid hCo
                          have HB6 := Lib.hid hb6
                          have HB8 := Lib.hid hb8
                          have HTR := Lib.hid htr
                          have HBR := Lib.hid hB
                          clear hCo hb6 hb8 htr hB
                          by_cases hlt : k < np ∧ k < 200
                          · try clear HYPF0
                            try clear HYPF1
                            try clear HYPF2
                            try clear HYPF3
                            obtain ⟨hl1, hl2⟩ := hlt
                            have hl3 : (k : Int) < np := by omega
                            have hl4 : (k : Int) < 200 := by omega
                            have hk0 : (0 : Int) ≤ k := by omega
                            obtain ⟨pb, po, rfl⟩ := HP.out.head hl1
                            have cp1 := (HP.out.keep HBR.out).cell hl1
                            have hb := u8_and1 _ (HPK.out k hl1)
                            obtain ⟨v0, v1, v2, v3, v4, v5⟩ := HB6.out
                            obtain ⟨x0, x1, x2, x3, x4, x5, x6, x7⟩ := HB8.out
                            obtain ⟨y, hy⟩ : ∃ y, y = pk k := ⟨_, rfl⟩
                            rw [← hy] at cp1 hb
                            have HY := Lib.hid (And.intro (HPK.out k hl1) hy)
                            obtain ⟨ev, hev⟩ : ∃ ev : Bool, ev = (decide (y % 2 = 0) && !d1.done) := ⟨_, rfl⟩
                            have HEV := Lib.hid hev
                            clear hy hev
                            go_upto_region 22 with fail
                            go_cut [157] (fun bv wx => bv = .bool ev ∧ wr = wx)
                            case first =>
                                try clear HYPF0
                                try clear HYPF1
                                try clear HYPF2
                                try clear HYPF3
                                repeat (rename_i zz; revert zz)
                                (try revert A); (try revert A'); (try revert A0); (try revert And); (try revert ArgN); (try revert B); (try revert Below); (try revert Bool); (try revert Box6); (try revert Bv); (try revert C); (try revert Chg); (try revert F); (try revert FewV); (try revert GOk); (try revert HAA); (try revert HB1); (try revert HB2); (try revert HB3); (try revert HB4); (try revert HB5); (try revert HB56); (try revert HB6); (try revert HB8); (try revert HBC)
                                (try revert HBR); (try revert HBW); (try revert HC1); (try revert HCO); (try revert HDO); (try revert HDO5); (try revert HEV); (try revert HF6); (try revert HFEW); (try revert HG); (try revert HGW); (try revert HI); (try revert HK); (try revert HK6); (try revert HM1); (try revert HM2); (try revert HM3); (try revert HM4); (try revert HM5); (try revert HMLT); (try revert HMM); (try revert HN); (try revert HNN); (try revert HNR); (try revert HOK)
                                (try revert HP); (try revert HPB); (try revert HPK); (try revert HPP); (try revert HPW); (try revert HQ); (try revert HR5); (try revert HS6); (try revert HSQ); (try revert HST); (try revert HSZ); (try revert HSZ5); (try revert HTR); (try revert HU6); (try revert HV); (try revert HVB); (try revert HVB5); (try revert HVF5); (try revert HVW); (try revert HW3); (try revert HW4); (try revert HW5); (try revert HWB); (try revert HWF); (try revert HWI)
                                (try revert HWS); (try revert HY); (try revert HZ); (try revert Hid); (try revert Instr); (try revert Int); (try revert L); (try revert Lib); (try revert M); (try revert MemAt); (try revert Nat); (try revert Off); (try revert P); (try revert P0); (try revert P1); (try revert P2); (try revert PRel); (try revert Sem); (try revert Sq); (try revert True); (try revert Tryd); (try revert U1); (try revert Us); (try revert VersN); (try revert W)
                                (try revert W4); (try revert W6); (try revert World); (try revert a); (try revert absurd); (try revert al_new); (try revert atStart); (try revert awake_any); (try revert b); (try revert b'); (try revert b1); (try revert b2); (try revert b3); (try revert b4); (try revert ba); (try revert bn); (try revert bv); (try revert by_cases); (try revert cA); (try revert cD); (try revert cE); (try revert cV); (try revert ca); (try revert ca'); (try revert cell_lt)
                                (try revert core_start); (try revert cp); (try revert cp1); (try revert cu1); (try revert d); (try revert d1); (try revert dnew_any); (try revert done); (try revert dw_rows2); (try revert dwords_any); (try revert e); (try revert e'); (try revert e1); (try revert ev); (try revert f); (try revert f1); (try revert fail); (try revert few_yes); (try revert fitB_yes); (try revert frozen_at); (try revert g); (try revert h1); (try revert h2); (try revert h3); (try revert h4)
                                (try revert h5); (try revert h6); (try revert hA); (try revert hA'); (try revert hA0); (try revert hB); (try revert hB1); (try revert hB2); (try revert hB2'); (try revert hB3); (try revert hB4); (try revert hB45); (try revert hB5); (try revert hB56); (try revert hB6); (try revert hC1); (try revert hCh); (try revert hCo); (try revert hF6); (try revert hG); (try revert hHeld); (try revert hL0); (try revert hL2); (try revert hM); (try revert hM1)
                                (try revert hM3); (try revert hM5); (try revert hM6); (try revert hN); (try revert hNp); (try revert hP); (try revert hR4); (try revert hR5); (try revert hSQ6); (try revert hU6); (try revert hV); (try revert hW); (try revert hW4); (try revert hW5); (try revert hW6); (try revert hWs); (try revert hWs4); (try revert ha1); (try revert ha2); (try revert hb); (try revert hb'); (try revert hb1); (try revert hb2); (try revert hb3); (try revert hb4)
                                (try revert hb6); (try revert hb8); (try revert hbad); (try revert hbw); (try revert hc'); (try revert hcut); (try revert hdO); (try revert hdo); (try revert hdo6); (try revert hev); (try revert hfew); (try revert hg1); (try revert hgg); (try revert hgi); (try revert hgi2); (try revert hi); (try revert hib); (try revert hk); (try revert hk0); (try revert hk2); (try revert hl1); (try revert hl2); (try revert hl3); (try revert hl4); (try revert hlt)
                                (try revert hm6); (try revert hmk); (try revert hmlt); (try revert hn); (try revert hnn); (try revert hnn2); (try revert hok); (try revert hpk); (try revert hpl); (try revert hr52); (try revert hrel); (try revert hs5); (try revert hs6); (try revert hsn); (try revert hst); (try revert hsz3); (try revert hsz52); (try revert hsz6); (try revert hsz7); (try revert hszz); (try revert htr); (try revert hv4); (try revert hv42); (try revert hvb); (try revert hvb6)
                                (try revert hvf); (try revert hvf6); (try revert hw6); (try revert hwA); (try revert hwb); (try revert hwf); (try revert hwlt); (try revert hws); (try revert hws2); (try revert hwsz); (try revert hwws); (try revert hx); (try revert hy); (try revert hz); (try revert i); (try revert ib); (try revert info22); (try revert intOf); (try revert j); (try revert k); (try revert k0); (try revert k1); (try revert k2); (try revert kept); (try revert kk0)
                                (try revert kk1); (try revert lv); (try revert madeCells); (try revert n); (try revert new_one); (try revert newr_yes); (try revert neww_sim); (try revert nin); (try revert nn); (try revert none); (try revert np); (try revert nq); (try revert o); (try revert o'); (try revert ofl); (try revert p); (try revert p0); (try revert p0'); (try revert p1); (try revert p1'); (try revert p2); (try revert p2'); (try revert pA); (try revert pD); (try revert pE)
                                (try revert pV); (try revert pa); (try revert pb); (try revert pc); (try revert pf); (try revert pk); (try revert pn); (try revert po); (try revert q0); (try revert q1); (try revert q2); (try revert qz); (try revert r1); (try revert rd0); (try revert rename); (try revert rotate_left); (try revert round); (try revert run_make_row'); (try revert s); (try revert s1); (try revert six_of); (try revert some); (try revert u0); (try revert u1); (try revert u10)
                                (try revert u100); (try revert u101); (try revert u102); (try revert u103); (try revert u104); (try revert u105); (try revert u106); (try revert u107); (try revert u108); (try revert u109); (try revert u11); (try revert u110); (try revert u111); (try revert u112); (try revert u113); (try revert u114); (try revert u115); (try revert u116); (try revert u117); (try revert u118); (try revert u119); (try revert u12); (try revert u120); (try revert u121); (try revert u122)
                                (try revert u123); (try revert u124); (try revert u125); (try revert u126); (try revert u127); (try revert u128); (try revert u129); (try revert u13); (try revert u130); (try revert u131); (try revert u132); (try revert u133); (try revert u134); (try revert u135); (try revert u136); (try revert u137); (try revert u138); (try revert u139); (try revert u14); (try revert u140); (try revert u141); (try revert u142); (try revert u143); (try revert u144); (try revert u145)
                                (try revert u146); (try revert u147); (try revert u148); (try revert u149); (try revert u15); (try revert u150); (try revert u151); (try revert u152); (try revert u153); (try revert u154); (try revert u155); (try revert u156); (try revert u157); (try revert u158); (try revert u159); (try revert u16); (try revert u160); (try revert u161); (try revert u162); (try revert u163); (try revert u164); (try revert u165); (try revert u166); (try revert u167); (try revert u168)
                                (try revert u169); (try revert u17); (try revert u170); (try revert u171); (try revert u172); (try revert u173); (try revert u174); (try revert u175); (try revert u176); (try revert u177); (try revert u178); (try revert u179); (try revert u18); (try revert u180); (try revert u181); (try revert u182); (try revert u183); (try revert u184); (try revert u185); (try revert u186); (try revert u187); (try revert u188); (try revert u189); (try revert u19); (try revert u190)
                                (try revert u191); (try revert u192); (try revert u193); (try revert u194); (try revert u195); (try revert u196); (try revert u197); (try revert u198); (try revert u199); (try revert u2); (try revert u20); (try revert u200); (try revert u201); (try revert u202); (try revert u203); (try revert u204); (try revert u205); (try revert u206); (try revert u207); (try revert u208); (try revert u209); (try revert u21); (try revert u210); (try revert u211); (try revert u212)
                                (try revert u213); (try revert u214); (try revert u215); (try revert u216); (try revert u217); (try revert u218); (try revert u219); (try revert u22); (try revert u220); (try revert u221); (try revert u222); (try revert u223); (try revert u224); (try revert u225); (try revert u226); (try revert u227); (try revert u228); (try revert u229); (try revert u23); (try revert u230); (try revert u231); (try revert u232); (try revert u233); (try revert u234); (try revert u235)
                                (try revert u236); (try revert u237); (try revert u238); (try revert u239); (try revert u24); (try revert u240); (try revert u241); (try revert u242); (try revert u243); (try revert u244); (try revert u245); (try revert u246); (try revert u247); (try revert u248); (try revert u249); (try revert u25); (try revert u250); (try revert u251); (try revert u252); (try revert u253); (try revert u254); (try revert u255); (try revert u256); (try revert u257); (try revert u258)
                                (try revert u259); (try revert u26); (try revert u260); (try revert u261); (try revert u262); (try revert u263); (try revert u264); (try revert u265); (try revert u266); (try revert u267); (try revert u268); (try revert u269); (try revert u27); (try revert u270); (try revert u271); (try revert u272); (try revert u273); (try revert u274); (try revert u275); (try revert u276); (try revert u277); (try revert u278); (try revert u279); (try revert u28); (try revert u280)
                                (try revert u281); (try revert u282); (try revert u283); (try revert u284); (try revert u285); (try revert u286); (try revert u287); (try revert u288); (try revert u289); (try revert u29); (try revert u290); (try revert u291); (try revert u292); (try revert u293); (try revert u294); (try revert u295); (try revert u296); (try revert u297); (try revert u298); (try revert u299); (try revert u3); (try revert u30); (try revert u31); (try revert u32); (try revert u33)
                                (try revert u34); (try revert u35); (try revert u36); (try revert u37); (try revert u38); (try revert u39); (try revert u4); (try revert u40); (try revert u41); (try revert u42); (try revert u43); (try revert u44); (try revert u45); (try revert u46); (try revert u47); (try revert u48); (try revert u49); (try revert u5); (try revert u50); (try revert u51); (try revert u52); (try revert u53); (try revert u54); (try revert u55); (try revert u56)
                                (try revert u57); (try revert u58); (try revert u59); (try revert u6); (try revert u60); (try revert u61); (try revert u62); (try revert u63); (try revert u64); (try revert u65); (try revert u66); (try revert u67); (try revert u68); (try revert u69); (try revert u7); (try revert u70); (try revert u71); (try revert u72); (try revert u73); (try revert u74); (try revert u75); (try revert u76); (try revert u77); (try revert u78); (try revert u79)
                                (try revert u8); (try revert u80); (try revert u81); (try revert u82); (try revert u83); (try revert u84); (try revert u85); (try revert u86); (try revert u87); (try revert u88); (try revert u89); (try revert u8_and1); (try revert u9); (try revert u90); (try revert u91); (try revert u92); (try revert u93); (try revert u94); (try revert u95); (try revert u96); (try revert u97); (try revert u98); (try revert u99); (try revert us_made); (try revert v)
                                (try revert v0); (try revert v1); (try revert v2); (try revert v3); (try revert v4); (try revert v5); (try revert va); (try revert vd); (try revert ve); (try revert vv); (try revert w); (try revert w1); (try revert w2); (try revert w3); (try revert w4); (try revert w5); (try revert wc); (try revert wq); (try revert wr); (try revert wx); (try revert x); (try revert x0); (try revert x1); (try revert x2); (try revert x3)
                                (try revert x4); (try revert x5); (try revert x6); (try revert x7); (try revert xb); (try revert xe); (try revert xo); (try revert y); (try revert z)
                                repeat (rename_i zz; revert zz)
                                exact HYPG.out
                            case rest =>
                                try clear HYPF0
                                try clear HYPF1
                                try clear HYPF2
                                try clear HYPF3
                                try clear HYPG
                                obtain ⟨rfl, rfl⟩ := hcut
                                go_upto_if 157 with fail
                                go_cut [15] (fun lv wx => MidR (w.heap.size + 1) ⟨g, b, 40, B, W4.heap.size, A', ca'⟩ w4.heap.size wq.heap.size a (F 0).n F w k lv wx)
                                case first =>
                                    try clear HYPF0
                                    try clear HYPF1
                                    try clear HYPF2
                                    try clear HYPF3
                                    try clear HYPG
                                    cases ev with
                                    | true =>
                                      try clear HYPF0
                                      try clear HYPF1
                                      try clear HYPF2
                                      try clear HYPF3
                                      try clear HYPG
                                      repeat (rename_i zz; revert zz)
                                      (try revert A); (try revert A'); (try revert A0); (try revert And); (try revert ArgN); (try revert B); (try revert Below); (try revert Bool); (try revert Box6); (try revert Bv); (try revert C); (try revert Chg); (try revert F); (try revert FewV); (try revert GOk); (try revert HAA); (try revert HB1); (try revert HB2); (try revert HB3); (try revert HB4); (try revert HB5); (try revert HB56); (try revert HB6); (try revert HB8); (try revert HBC)
                                      (try revert HBR); (try revert HBW); (try revert HC1); (try revert HCO); (try revert HDO); (try revert HDO5); (try revert HEV); (try revert HF6); (try revert HFEW); (try revert HG); (try revert HGW); (try revert HI); (try revert HK); (try revert HK6); (try revert HM1); (try revert HM2); (try revert HM3); (try revert HM4); (try revert HM5); (try revert HMLT); (try revert HMM); (try revert HN); (try revert HNN); (try revert HNR); (try revert HOK)
                                      (try revert HP); (try revert HPB); (try revert HPK); (try revert HPP); (try revert HPW); (try revert HQ); (try revert HR5); (try revert HS6); (try revert HSQ); (try revert HST); (try revert HSZ); (try revert HSZ5); (try revert HTR); (try revert HU6); (try revert HV); (try revert HVB); (try revert HVB5); (try revert HVF5); (try revert HVW); (try revert HW3); (try revert HW4); (try revert HW5); (try revert HWB); (try revert HWF); (try revert HWI)
                                      (try revert HWS); (try revert HY); (try revert HZ); (try revert Hid); (try revert Instr); (try revert Int); (try revert L); (try revert Lib); (try revert M); (try revert MemAt); (try revert MidR); (try revert Nat); (try revert Off); (try revert P); (try revert P0); (try revert P1); (try revert P2); (try revert PRel); (try revert Sem); (try revert Sq); (try revert True); (try revert Tryd); (try revert U1); (try revert Us); (try revert VersN)
                                      (try revert W); (try revert W4); (try revert W6); (try revert World); (try revert a); (try revert absurd); (try revert al_new); (try revert atStart); (try revert awake_any); (try revert b); (try revert b'); (try revert b1); (try revert b2); (try revert b3); (try revert b4); (try revert ba); (try revert bn); (try revert bv); (try revert by_cases); (try revert cA); (try revert cD); (try revert cE); (try revert cV); (try revert ca); (try revert ca')
                                      (try revert cell_lt); (try revert core_start); (try revert cp); (try revert cp1); (try revert cu1); (try revert d); (try revert d1); (try revert dnew_any); (try revert done); (try revert dw_rows2); (try revert dwords_any); (try revert e); (try revert e'); (try revert e1); (try revert ev); (try revert f); (try revert f1); (try revert fail); (try revert few_yes); (try revert fitB_yes); (try revert frozen_at); (try revert g); (try revert h1); (try revert h2); (try revert h3)
                                      (try revert h4); (try revert h5); (try revert h6); (try revert hA); (try revert hA'); (try revert hA0); (try revert hB); (try revert hB1); (try revert hB2); (try revert hB2'); (try revert hB3); (try revert hB4); (try revert hB45); (try revert hB5); (try revert hB56); (try revert hB6); (try revert hC1); (try revert hCh); (try revert hCo); (try revert hF6); (try revert hG); (try revert hHeld); (try revert hL0); (try revert hL2); (try revert hM)
                                      (try revert hM1); (try revert hM3); (try revert hM5); (try revert hM6); (try revert hN); (try revert hNp); (try revert hP); (try revert hR4); (try revert hR5); (try revert hSQ6); (try revert hU6); (try revert hV); (try revert hW); (try revert hW4); (try revert hW5); (try revert hW6); (try revert hWs); (try revert hWs4); (try revert ha1); (try revert ha2); (try revert hb); (try revert hb'); (try revert hb1); (try revert hb2); (try revert hb3)
                                      (try revert hb4); (try revert hb6); (try revert hb8); (try revert hbad); (try revert hbw); (try revert hc'); (try revert hcut); (try revert hdO); (try revert hdo); (try revert hdo6); (try revert hev); (try revert hfew); (try revert hg1); (try revert hgg); (try revert hgi); (try revert hgi2); (try revert hi); (try revert hib); (try revert hk); (try revert hk0); (try revert hk2); (try revert hl1); (try revert hl2); (try revert hl3); (try revert hl4)
                                      (try revert hlt); (try revert hm6); (try revert hmk); (try revert hmlt); (try revert hn); (try revert hnn); (try revert hnn2); (try revert hok); (try revert hpk); (try revert hpl); (try revert hr52); (try revert hrel); (try revert hs5); (try revert hs6); (try revert hsn); (try revert hst); (try revert hsz3); (try revert hsz52); (try revert hsz6); (try revert hsz7); (try revert hszz); (try revert htr); (try revert hv4); (try revert hv42); (try revert hvb)
                                      (try revert hvb6); (try revert hvf); (try revert hvf6); (try revert hw6); (try revert hwA); (try revert hwb); (try revert hwf); (try revert hwlt); (try revert hws); (try revert hws2); (try revert hwsz); (try revert hwws); (try revert hx); (try revert hy); (try revert hz); (try revert i); (try revert ib); (try revert info22); (try revert intOf); (try revert j); (try revert k); (try revert k0); (try revert k1); (try revert k2); (try revert kept)
                                      (try revert kk0); (try revert kk1); (try revert lv); (try revert madeCells); (try revert n); (try revert new_one); (try revert newr_yes); (try revert neww_sim); (try revert nin); (try revert nn); (try revert none); (try revert np); (try revert nq); (try revert o); (try revert o'); (try revert ofl); (try revert p); (try revert p0); (try revert p0'); (try revert p1); (try revert p1'); (try revert p2); (try revert p2'); (try revert pA); (try revert pD)
                                      (try revert pE); (try revert pV); (try revert pa); (try revert pb); (try revert pc); (try revert pf); (try revert pk); (try revert pn); (try revert po); (try revert q0); (try revert q1); (try revert q2); (try revert qz); (try revert r1); (try revert rd0); (try revert rename); (try revert rotate_left); (try revert round); (try revert run_make_row'); (try revert s); (try revert s1); (try revert six_of); (try revert some); (try revert u0); (try revert u1)
                                      (try revert u10); (try revert u100); (try revert u101); (try revert u102); (try revert u103); (try revert u104); (try revert u105); (try revert u106); (try revert u107); (try revert u108); (try revert u109); (try revert u11); (try revert u110); (try revert u111); (try revert u112); (try revert u113); (try revert u114); (try revert u115); (try revert u116); (try revert u117); (try revert u118); (try revert u119); (try revert u12); (try revert u120); (try revert u121)
                                      (try revert u122); (try revert u123); (try revert u124); (try revert u125); (try revert u126); (try revert u127); (try revert u128); (try revert u129); (try revert u13); (try revert u130); (try revert u131); (try revert u132); (try revert u133); (try revert u134); (try revert u135); (try revert u136); (try revert u137); (try revert u138); (try revert u139); (try revert u14); (try revert u140); (try revert u141); (try revert u142); (try revert u143); (try revert u144)
                                      (try revert u145); (try revert u146); (try revert u147); (try revert u148); (try revert u149); (try revert u15); (try revert u150); (try revert u151); (try revert u152); (try revert u153); (try revert u154); (try revert u155); (try revert u156); (try revert u157); (try revert u158); (try revert u159); (try revert u16); (try revert u160); (try revert u161); (try revert u162); (try revert u163); (try revert u164); (try revert u165); (try revert u166); (try revert u167)
                                      (try revert u168); (try revert u169); (try revert u17); (try revert u170); (try revert u171); (try revert u172); (try revert u173); (try revert u174); (try revert u175); (try revert u176); (try revert u177); (try revert u178); (try revert u179); (try revert u18); (try revert u180); (try revert u181); (try revert u182); (try revert u183); (try revert u184); (try revert u185); (try revert u186); (try revert u187); (try revert u188); (try revert u189); (try revert u19)
                                      (try revert u190); (try revert u191); (try revert u192); (try revert u193); (try revert u194); (try revert u195); (try revert u196); (try revert u197); (try revert u198); (try revert u199); (try revert u2); (try revert u20); (try revert u200); (try revert u201); (try revert u202); (try revert u203); (try revert u204); (try revert u205); (try revert u206); (try revert u207); (try revert u208); (try revert u209); (try revert u21); (try revert u210); (try revert u211)
                                      (try revert u212); (try revert u213); (try revert u214); (try revert u215); (try revert u216); (try revert u217); (try revert u218); (try revert u219); (try revert u22); (try revert u220); (try revert u221); (try revert u222); (try revert u223); (try revert u224); (try revert u225); (try revert u226); (try revert u227); (try revert u228); (try revert u229); (try revert u23); (try revert u230); (try revert u231); (try revert u232); (try revert u233); (try revert u234)
                                      (try revert u235); (try revert u236); (try revert u237); (try revert u238); (try revert u239); (try revert u24); (try revert u240); (try revert u241); (try revert u242); (try revert u243); (try revert u244); (try revert u245); (try revert u246); (try revert u247); (try revert u248); (try revert u249); (try revert u25); (try revert u250); (try revert u251); (try revert u252); (try revert u253); (try revert u254); (try revert u255); (try revert u256); (try revert u257)
                                      (try revert u258); (try revert u259); (try revert u26); (try revert u260); (try revert u261); (try revert u262); (try revert u263); (try revert u264); (try revert u265); (try revert u266); (try revert u267); (try revert u268); (try revert u269); (try revert u27); (try revert u270); (try revert u271); (try revert u272); (try revert u273); (try revert u274); (try revert u275); (try revert u276); (try revert u277); (try revert u278); (try revert u279); (try revert u28)
                                      (try revert u280); (try revert u281); (try revert u282); (try revert u283); (try revert u284); (try revert u285); (try revert u286); (try revert u287); (try revert u288); (try revert u289); (try revert u29); (try revert u290); (try revert u291); (try revert u292); (try revert u293); (try revert u294); (try revert u295); (try revert u296); (try revert u297); (try revert u298); (try revert u299); (try revert u3); (try revert u30); (try revert u31); (try revert u32)
                                      (try revert u33); (try revert u34); (try revert u35); (try revert u36); (try revert u37); (try revert u38); (try revert u39); (try revert u4); (try revert u40); (try revert u41); (try revert u42); (try revert u43); (try revert u44); (try revert u45); (try revert u46); (try revert u47); (try revert u48); (try revert u49); (try revert u5); (try revert u50); (try revert u51); (try revert u52); (try revert u53); (try revert u54); (try revert u55)
                                      (try revert u56); (try revert u57); (try revert u58); (try revert u59); (try revert u6); (try revert u60); (try revert u61); (try revert u62); (try revert u63); (try revert u64); (try revert u65); (try revert u66); (try revert u67); (try revert u68); (try revert u69); (try revert u7); (try revert u70); (try revert u71); (try revert u72); (try revert u73); (try revert u74); (try revert u75); (try revert u76); (try revert u77); (try revert u78)
                                      (try revert u79); (try revert u8); (try revert u80); (try revert u81); (try revert u82); (try revert u83); (try revert u84); (try revert u85); (try revert u86); (try revert u87); (try revert u88); (try revert u89); (try revert u8_and1); (try revert u9); (try revert u90); (try revert u91); (try revert u92); (try revert u93); (try revert u94); (try revert u95); (try revert u96); (try revert u97); (try revert u98); (try revert u99); (try revert us_made)
                                      (try revert v); (try revert v0); (try revert v1); (try revert v2); (try revert v3); (try revert v4); (try revert v5); (try revert va); (try revert vd); (try revert ve); (try revert vv); (try revert w); (try revert w1); (try revert w2); (try revert w3); (try revert w4); (try revert w5); (try revert wc); (try revert wq); (try revert wr); (try revert wx); (try revert x); (try revert x0); (try revert x1); (try revert x2)
                                      (try revert x3); (try revert x4); (try revert x5); (try revert x6); (try revert x7); (try revert xb); (try revert xe); (try revert xo); (try revert y); (try revert z)
                                      repeat (rename_i zz; revert zz)
                                      exact HYPA.out
                                    | false =>
                                      try clear HYPF0
                                      try clear HYPF1
                                      try clear HYPF2
                                      try clear HYPF3
                                      try clear HYPG
                                      try clear HYPA
                                      repeat (rename_i zz; revert zz)
                                      (try revert A); (try revert A'); (try revert A0); (try revert And); (try revert ArgN); (try revert B); (try revert Below); (try revert Bool); (try revert Box6); (try revert Bv); (try revert C); (try revert Chg); (try revert F); (try revert FewV); (try revert GOk); (try revert HAA); (try revert HB1); (try revert HB2); (try revert HB3); (try revert HB4); (try revert HB5); (try revert HB56); (try revert HB6); (try revert HB8); (try revert HBC)
                                      (try revert HBR); (try revert HBW); (try revert HC1); (try revert HCO); (try revert HDO); (try revert HDO5); (try revert HEV); (try revert HF6); (try revert HFEW); (try revert HG); (try revert HGW); (try revert HI); (try revert HK); (try revert HK6); (try revert HM1); (try revert HM2); (try revert HM3); (try revert HM4); (try revert HM5); (try revert HMLT); (try revert HMM); (try revert HN); (try revert HNN); (try revert HNR); (try revert HOK)
                                      (try revert HP); (try revert HPB); (try revert HPK); (try revert HPP); (try revert HPW); (try revert HQ); (try revert HR5); (try revert HS6); (try revert HSQ); (try revert HST); (try revert HSZ); (try revert HSZ5); (try revert HTR); (try revert HU6); (try revert HV); (try revert HVB); (try revert HVB5); (try revert HVF5); (try revert HVW); (try revert HW3); (try revert HW4); (try revert HW5); (try revert HWB); (try revert HWF); (try revert HWI)
                                      (try revert HWS); (try revert HY); (try revert HZ); (try revert Hid); (try revert Instr); (try revert Int); (try revert L); (try revert Lib); (try revert M); (try revert MemAt); (try revert MidR); (try revert Nat); (try revert Off); (try revert P); (try revert P0); (try revert P1); (try revert P2); (try revert PRel); (try revert Sem); (try revert Sq); (try revert True); (try revert Tryd); (try revert U1); (try revert Us); (try revert VersN)
                                      (try revert W); (try revert W4); (try revert W6); (try revert World); (try revert a); (try revert absurd); (try revert al_new); (try revert atStart); (try revert awake_any); (try revert b); (try revert b'); (try revert b1); (try revert b2); (try revert b3); (try revert b4); (try revert ba); (try revert bn); (try revert bv); (try revert by_cases); (try revert cA); (try revert cD); (try revert cE); (try revert cV); (try revert ca); (try revert ca')
                                      (try revert cell_lt); (try revert core_start); (try revert cp); (try revert cp1); (try revert cu1); (try revert d); (try revert d1); (try revert dnew_any); (try revert done); (try revert dw_rows2); (try revert dwords_any); (try revert e); (try revert e'); (try revert e1); (try revert ev); (try revert f); (try revert f1); (try revert fail); (try revert few_yes); (try revert fitB_yes); (try revert frozen_at); (try revert g); (try revert h1); (try revert h2); (try revert h3)
                                      (try revert h4); (try revert h5); (try revert h6); (try revert hA); (try revert hA'); (try revert hA0); (try revert hB); (try revert hB1); (try revert hB2); (try revert hB2'); (try revert hB3); (try revert hB4); (try revert hB45); (try revert hB5); (try revert hB56); (try revert hB6); (try revert hC1); (try revert hCh); (try revert hCo); (try revert hF6); (try revert hG); (try revert hHeld); (try revert hL0); (try revert hL2); (try revert hM)
                                      (try revert hM1); (try revert hM3); (try revert hM5); (try revert hM6); (try revert hN); (try revert hNp); (try revert hP); (try revert hR4); (try revert hR5); (try revert hSQ6); (try revert hU6); (try revert hV); (try revert hW); (try revert hW4); (try revert hW5); (try revert hW6); (try revert hWs); (try revert hWs4); (try revert ha1); (try revert ha2); (try revert hb); (try revert hb'); (try revert hb1); (try revert hb2); (try revert hb3)
                                      (try revert hb4); (try revert hb6); (try revert hb8); (try revert hbad); (try revert hbw); (try revert hc'); (try revert hcut); (try revert hdO); (try revert hdo); (try revert hdo6); (try revert hev); (try revert hfew); (try revert hg1); (try revert hgg); (try revert hgi); (try revert hgi2); (try revert hi); (try revert hib); (try revert hk); (try revert hk0); (try revert hk2); (try revert hl1); (try revert hl2); (try revert hl3); (try revert hl4)
                                      (try revert hlt); (try revert hm6); (try revert hmk); (try revert hmlt); (try revert hn); (try revert hnn); (try revert hnn2); (try revert hok); (try revert hpk); (try revert hpl); (try revert hr52); (try revert hrel); (try revert hs5); (try revert hs6); (try revert hsn); (try revert hst); (try revert hsz3); (try revert hsz52); (try revert hsz6); (try revert hsz7); (try revert hszz); (try revert htr); (try revert hv4); (try revert hv42); (try revert hvb)
                                      (try revert hvb6); (try revert hvf); (try revert hvf6); (try revert hw6); (try revert hwA); (try revert hwb); (try revert hwf); (try revert hwlt); (try revert hws); (try revert hws2); (try revert hwsz); (try revert hwws); (try revert hx); (try revert hy); (try revert hz); (try revert i); (try revert ib); (try revert info22); (try revert intOf); (try revert j); (try revert k); (try revert k0); (try revert k1); (try revert k2); (try revert kept)
                                      (try revert kk0); (try revert kk1); (try revert lv); (try revert madeCells); (try revert n); (try revert new_one); (try revert newr_yes); (try revert neww_sim); (try revert nin); (try revert nn); (try revert none); (try revert np); (try revert nq); (try revert o); (try revert o'); (try revert ofl); (try revert p); (try revert p0); (try revert p0'); (try revert p1); (try revert p1'); (try revert p2); (try revert p2'); (try revert pA); (try revert pD)
                                      (try revert pE); (try revert pV); (try revert pa); (try revert pb); (try revert pc); (try revert pf); (try revert pk); (try revert pn); (try revert po); (try revert q0); (try revert q1); (try revert q2); (try revert qz); (try revert r1); (try revert rd0); (try revert rename); (try revert rotate_left); (try revert round); (try revert run_make_row'); (try revert s); (try revert s1); (try revert six_of); (try revert some); (try revert u0); (try revert u1)
                                      (try revert u10); (try revert u100); (try revert u101); (try revert u102); (try revert u103); (try revert u104); (try revert u105); (try revert u106); (try revert u107); (try revert u108); (try revert u109); (try revert u11); (try revert u110); (try revert u111); (try revert u112); (try revert u113); (try revert u114); (try revert u115); (try revert u116); (try revert u117); (try revert u118); (try revert u119); (try revert u12); (try revert u120); (try revert u121)
                                      (try revert u122); (try revert u123); (try revert u124); (try revert u125); (try revert u126); (try revert u127); (try revert u128); (try revert u129); (try revert u13); (try revert u130); (try revert u131); (try revert u132); (try revert u133); (try revert u134); (try revert u135); (try revert u136); (try revert u137); (try revert u138); (try revert u139); (try revert u14); (try revert u140); (try revert u141); (try revert u142); (try revert u143); (try revert u144)
                                      (try revert u145); (try revert u146); (try revert u147); (try revert u148); (try revert u149); (try revert u15); (try revert u150); (try revert u151); (try revert u152); (try revert u153); (try revert u154); (try revert u155); (try revert u156); (try revert u157); (try revert u158); (try revert u159); (try revert u16); (try revert u160); (try revert u161); (try revert u162); (try revert u163); (try revert u164); (try revert u165); (try revert u166); (try revert u167)
                                      (try revert u168); (try revert u169); (try revert u17); (try revert u170); (try revert u171); (try revert u172); (try revert u173); (try revert u174); (try revert u175); (try revert u176); (try revert u177); (try revert u178); (try revert u179); (try revert u18); (try revert u180); (try revert u181); (try revert u182); (try revert u183); (try revert u184); (try revert u185); (try revert u186); (try revert u187); (try revert u188); (try revert u189); (try revert u19)
                                      (try revert u190); (try revert u191); (try revert u192); (try revert u193); (try revert u194); (try revert u195); (try revert u196); (try revert u197); (try revert u198); (try revert u199); (try revert u2); (try revert u20); (try revert u200); (try revert u201); (try revert u202); (try revert u203); (try revert u204); (try revert u205); (try revert u206); (try revert u207); (try revert u208); (try revert u209); (try revert u21); (try revert u210); (try revert u211)
                                      (try revert u212); (try revert u213); (try revert u214); (try revert u215); (try revert u216); (try revert u217); (try revert u218); (try revert u219); (try revert u22); (try revert u220); (try revert u221); (try revert u222); (try revert u223); (try revert u224); (try revert u225); (try revert u226); (try revert u227); (try revert u228); (try revert u229); (try revert u23); (try revert u230); (try revert u231); (try revert u232); (try revert u233); (try revert u234)
                                      (try revert u235); (try revert u236); (try revert u237); (try revert u238); (try revert u239); (try revert u24); (try revert u240); (try revert u241); (try revert u242); (try revert u243); (try revert u244); (try revert u245); (try revert u246); (try revert u247); (try revert u248); (try revert u249); (try revert u25); (try revert u250); (try revert u251); (try revert u252); (try revert u253); (try revert u254); (try revert u255); (try revert u256); (try revert u257)
                                      (try revert u258); (try revert u259); (try revert u26); (try revert u260); (try revert u261); (try revert u262); (try revert u263); (try revert u264); (try revert u265); (try revert u266); (try revert u267); (try revert u268); (try revert u269); (try revert u27); (try revert u270); (try revert u271); (try revert u272); (try revert u273); (try revert u274); (try revert u275); (try revert u276); (try revert u277); (try revert u278); (try revert u279); (try revert u28)
                                      (try revert u280); (try revert u281); (try revert u282); (try revert u283); (try revert u284); (try revert u285); (try revert u286); (try revert u287); (try revert u288); (try revert u289); (try revert u29); (try revert u290); (try revert u291); (try revert u292); (try revert u293); (try revert u294); (try revert u295); (try revert u296); (try revert u297); (try revert u298); (try revert u299); (try revert u3); (try revert u30); (try revert u31); (try revert u32)
                                      (try revert u33); (try revert u34); (try revert u35); (try revert u36); (try revert u37); (try revert u38); (try revert u39); (try revert u4); (try revert u40); (try revert u41); (try revert u42); (try revert u43); (try revert u44); (try revert u45); (try revert u46); (try revert u47); (try revert u48); (try revert u49); (try revert u5); (try revert u50); (try revert u51); (try revert u52); (try revert u53); (try revert u54); (try revert u55)
                                      (try revert u56); (try revert u57); (try revert u58); (try revert u59); (try revert u6); (try revert u60); (try revert u61); (try revert u62); (try revert u63); (try revert u64); (try revert u65); (try revert u66); (try revert u67); (try revert u68); (try revert u69); (try revert u7); (try revert u70); (try revert u71); (try revert u72); (try revert u73); (try revert u74); (try revert u75); (try revert u76); (try revert u77); (try revert u78)
                                      (try revert u79); (try revert u8); (try revert u80); (try revert u81); (try revert u82); (try revert u83); (try revert u84); (try revert u85); (try revert u86); (try revert u87); (try revert u88); (try revert u89); (try revert u8_and1); (try revert u9); (try revert u90); (try revert u91); (try revert u92); (try revert u93); (try revert u94); (try revert u95); (try revert u96); (try revert u97); (try revert u98); (try revert u99); (try revert us_made)
                                      (try revert v); (try revert v0); (try revert v1); (try revert v2); (try revert v3); (try revert v4); (try revert v5); (try revert va); (try revert vd); (try revert ve); (try revert vv); (try revert w); (try revert w1); (try revert w2); (try revert w3); (try revert w4); (try revert w5); (try revert wc); (try revert wq); (try revert wr); (try revert wx); (try revert x); (try revert x0); (try revert x1); (try revert x2)
                                      (try revert x3); (try revert x4); (try revert x5); (try revert x6); (try revert x7); (try revert xb); (try revert xe); (try revert xo); (try revert y); (try revert z)
                                      repeat (rename_i zz; revert zz)
                                      exact HYPB.out
                                case rest =>
                                    try clear HYPF0
                                    try clear HYPF1
                                    try clear HYPF2
                                    try clear HYPF3
                                    try clear HYPG
                                    try clear HYPA
                                    try clear HYPB
                                    obtain ⟨s2, f2, r2, d2, e2, U2, cu2, rfl, hC, hb6, hb8, htr, hB⟩ := hcut
                                    have HBZ := Lib.hid hB
                                    have HTZ := Lib.hid htr
                                    clear v0 v1 v2 v3 v4 v5 x0 x1 x2 x3 x4 x5 x6 x7 HCO HB6 HB8 HTR HBR hB htr
                                    obtain ⟨tw, htw⟩ : ∃ tw : Int, tw = s2.wr := ⟨_, rfl⟩
                                    obtain ⟨tt, htt⟩ : ∃ tt : Int, tt = r2.tr := ⟨_, rfl⟩
                                    have hqt : e2.tr = tt := by rw [htt]; exact hC.rs.tr
                                    have hdw : ((d2.did / ((F 0).n + 2) : Nat) : Int) = tw := by rw [htw, hC.ws.written2 hC.wn]
                                    have hxw : (tw != tw) = false := by simp
                                    have hxt : (tt != tt) = false := by simp
                                    have HDLE := Lib.hid (And.intro hC.ws.le.1 hC.dM)
                                    have HNR2 := Lib.hid hC.rn
                                    by_cases hp : r2.k.ph = 3
                                    · try clear HYPF0
                                      try clear HYPF1
                                      try clear HYPF2
                                      try clear HYPF3
                                      try clear HYPG
                                      try clear HYPA
                                      try clear HYPB
                                      skip
                                      repeat (rename_i zz; revert zz)
                                      (try revert A); (try revert A'); (try revert A0); (try revert And); (try revert ArgN); (try revert B); (try revert Below); (try revert Bool); (try revert Box6); (try revert Bv); (try revert C); (try revert Chg); (try revert F); (try revert FewV); (try revert GOk); (try revert HAA); (try revert HB1); (try revert HB2); (try revert HB3); (try revert HB4); (try revert HB5); (try revert HB56); (try revert HB6); (try revert HB8); (try revert HBC)
                                      (try revert HBR); (try revert HBW); (try revert HBZ); (try revert HC1); (try revert HCO); (try revert HDLE); (try revert HDO); (try revert HDO5); (try revert HEV); (try revert HF6); (try revert HFEW); (try revert HG); (try revert HGW); (try revert HI); (try revert HK); (try revert HK6); (try revert HM1); (try revert HM2); (try revert HM3); (try revert HM4); (try revert HM5); (try revert HMLT); (try revert HMM); (try revert HN); (try revert HNN)
                                      (try revert HNR); (try revert HNR2); (try revert HOK); (try revert HP); (try revert HPB); (try revert HPK); (try revert HPP); (try revert HPW); (try revert HQ); (try revert HR5); (try revert HS6); (try revert HSQ); (try revert HST); (try revert HSZ); (try revert HSZ5); (try revert HTR); (try revert HTZ); (try revert HU6); (try revert HV); (try revert HVB); (try revert HVB5); (try revert HVF5); (try revert HVW); (try revert HW3); (try revert HW4)
                                      (try revert HW5); (try revert HWB); (try revert HWF); (try revert HWI); (try revert HWS); (try revert HY); (try revert HZ); (try revert Hid); (try revert Instr); (try revert Int); (try revert L); (try revert Lib); (try revert M); (try revert MemAt); (try revert MidR); (try revert Nat); (try revert Off); (try revert P); (try revert P0); (try revert P1); (try revert P2); (try revert PRel); (try revert Sem); (try revert Sq); (try revert True)
                                      (try revert Tryd); (try revert U1); (try revert U2); (try revert Us); (try revert VersN); (try revert W); (try revert W4); (try revert W6); (try revert World); (try revert a); (try revert absurd); (try revert al_new); (try revert atStart); (try revert awake_any); (try revert b); (try revert b'); (try revert b1); (try revert b2); (try revert b3); (try revert b4); (try revert ba); (try revert bn); (try revert bv); (try revert by_cases); (try revert cA)
                                      (try revert cD); (try revert cE); (try revert cV); (try revert ca); (try revert ca'); (try revert cell_lt); (try revert core_start); (try revert cp); (try revert cp1); (try revert cu1); (try revert cu2); (try revert d); (try revert d1); (try revert d2); (try revert dnew_any); (try revert done); (try revert dw_rows2); (try revert dwords_any); (try revert e); (try revert e'); (try revert e1); (try revert e2); (try revert ev); (try revert f); (try revert f1)
                                      (try revert f2); (try revert fail); (try revert few_yes); (try revert fitB_yes); (try revert frozen_at); (try revert g); (try revert h1); (try revert h2); (try revert h3); (try revert h4); (try revert h5); (try revert h6); (try revert hA); (try revert hA'); (try revert hA0); (try revert hB); (try revert hB1); (try revert hB2); (try revert hB2'); (try revert hB3); (try revert hB4); (try revert hB45); (try revert hB5); (try revert hB56); (try revert hB6)
                                      (try revert hC); (try revert hC1); (try revert hCh); (try revert hCo); (try revert hF6); (try revert hG); (try revert hHeld); (try revert hL0); (try revert hL2); (try revert hM); (try revert hM1); (try revert hM3); (try revert hM5); (try revert hM6); (try revert hN); (try revert hNp); (try revert hP); (try revert hR4); (try revert hR5); (try revert hSQ6); (try revert hU6); (try revert hV); (try revert hW); (try revert hW4); (try revert hW5)
                                      (try revert hW6); (try revert hWs); (try revert hWs4); (try revert ha1); (try revert ha2); (try revert hb); (try revert hb'); (try revert hb1); (try revert hb2); (try revert hb3); (try revert hb4); (try revert hb6); (try revert hb8); (try revert hbad); (try revert hbw); (try revert hc'); (try revert hcut); (try revert hdO); (try revert hdo); (try revert hdo6); (try revert hdw); (try revert hev); (try revert hfew); (try revert hg1); (try revert hgg)
                                      (try revert hgi); (try revert hgi2); (try revert hi); (try revert hib); (try revert hk); (try revert hk0); (try revert hk2); (try revert hl1); (try revert hl2); (try revert hl3); (try revert hl4); (try revert hlt); (try revert hm6); (try revert hmk); (try revert hmlt); (try revert hn); (try revert hnn); (try revert hnn2); (try revert hok); (try revert hp); (try revert hpk); (try revert hpl); (try revert hqt); (try revert hr52); (try revert hrel)
                                      (try revert hs5); (try revert hs6); (try revert hsn); (try revert hst); (try revert hsz3); (try revert hsz52); (try revert hsz6); (try revert hsz7); (try revert hszz); (try revert htr); (try revert htt); (try revert htw); (try revert hv4); (try revert hv42); (try revert hvb); (try revert hvb6); (try revert hvf); (try revert hvf6); (try revert hw6); (try revert hwA); (try revert hwb); (try revert hwf); (try revert hwlt); (try revert hws); (try revert hws2)
                                      (try revert hwsz); (try revert hwws); (try revert hx); (try revert hxt); (try revert hxw); (try revert hy); (try revert hz); (try revert i); (try revert ib); (try revert info22); (try revert intOf); (try revert j); (try revert k); (try revert k0); (try revert k1); (try revert k2); (try revert kept); (try revert kk0); (try revert kk1); (try revert lv); (try revert madeCells); (try revert n); (try revert new_one); (try revert newr_yes); (try revert neww_sim)
                                      (try revert nin); (try revert nn); (try revert none); (try revert np); (try revert nq); (try revert o); (try revert o'); (try revert ofl); (try revert p); (try revert p0); (try revert p0'); (try revert p1); (try revert p1'); (try revert p2); (try revert p2'); (try revert pA); (try revert pD); (try revert pE); (try revert pV); (try revert pa); (try revert pb); (try revert pc); (try revert pf); (try revert pk); (try revert pn)
                                      (try revert po); (try revert q0); (try revert q1); (try revert q2); (try revert qz); (try revert r1); (try revert r2); (try revert rd0); (try revert rename); (try revert rotate_left); (try revert round); (try revert rs); (try revert run_make_row'); (try revert s); (try revert s1); (try revert s2); (try revert six_of); (try revert some); (try revert tt); (try revert tw); (try revert u0); (try revert u1); (try revert u10); (try revert u100); (try revert u101)
                                      (try revert u102); (try revert u103); (try revert u104); (try revert u105); (try revert u106); (try revert u107); (try revert u108); (try revert u109); (try revert u11); (try revert u110); (try revert u111); (try revert u112); (try revert u113); (try revert u114); (try revert u115); (try revert u116); (try revert u117); (try revert u118); (try revert u119); (try revert u12); (try revert u120); (try revert u121); (try revert u122); (try revert u123); (try revert u124)
                                      (try revert u125); (try revert u126); (try revert u127); (try revert u128); (try revert u129); (try revert u13); (try revert u130); (try revert u131); (try revert u132); (try revert u133); (try revert u134); (try revert u135); (try revert u136); (try revert u137); (try revert u138); (try revert u139); (try revert u14); (try revert u140); (try revert u141); (try revert u142); (try revert u143); (try revert u144); (try revert u145); (try revert u146); (try revert u147)
                                      (try revert u148); (try revert u149); (try revert u15); (try revert u150); (try revert u151); (try revert u152); (try revert u153); (try revert u154); (try revert u155); (try revert u156); (try revert u157); (try revert u158); (try revert u159); (try revert u16); (try revert u160); (try revert u161); (try revert u162); (try revert u163); (try revert u164); (try revert u165); (try revert u166); (try revert u167); (try revert u168); (try revert u169); (try revert u17)
                                      (try revert u170); (try revert u171); (try revert u172); (try revert u173); (try revert u174); (try revert u175); (try revert u176); (try revert u177); (try revert u178); (try revert u179); (try revert u18); (try revert u180); (try revert u181); (try revert u182); (try revert u183); (try revert u184); (try revert u185); (try revert u186); (try revert u187); (try revert u188); (try revert u189); (try revert u19); (try revert u190); (try revert u191); (try revert u192)
                                      (try revert u193); (try revert u194); (try revert u195); (try revert u196); (try revert u197); (try revert u198); (try revert u199); (try revert u2); (try revert u20); (try revert u200); (try revert u201); (try revert u202); (try revert u203); (try revert u204); (try revert u205); (try revert u206); (try revert u207); (try revert u208); (try revert u209); (try revert u21); (try revert u210); (try revert u211); (try revert u212); (try revert u213); (try revert u214)
                                      (try revert u215); (try revert u216); (try revert u217); (try revert u218); (try revert u219); (try revert u22); (try revert u220); (try revert u221); (try revert u222); (try revert u223); (try revert u224); (try revert u225); (try revert u226); (try revert u227); (try revert u228); (try revert u229); (try revert u23); (try revert u230); (try revert u231); (try revert u232); (try revert u233); (try revert u234); (try revert u235); (try revert u236); (try revert u237)
                                      (try revert u238); (try revert u239); (try revert u24); (try revert u240); (try revert u241); (try revert u242); (try revert u243); (try revert u244); (try revert u245); (try revert u246); (try revert u247); (try revert u248); (try revert u249); (try revert u25); (try revert u250); (try revert u251); (try revert u252); (try revert u253); (try revert u254); (try revert u255); (try revert u256); (try revert u257); (try revert u258); (try revert u259); (try revert u26)
                                      (try revert u260); (try revert u261); (try revert u262); (try revert u263); (try revert u264); (try revert u265); (try revert u266); (try revert u267); (try revert u268); (try revert u269); (try revert u27); (try revert u270); (try revert u271); (try revert u272); (try revert u273); (try revert u274); (try revert u275); (try revert u276); (try revert u277); (try revert u278); (try revert u279); (try revert u28); (try revert u280); (try revert u281); (try revert u282)
                                      (try revert u283); (try revert u284); (try revert u285); (try revert u286); (try revert u287); (try revert u288); (try revert u289); (try revert u29); (try revert u290); (try revert u291); (try revert u292); (try revert u293); (try revert u294); (try revert u295); (try revert u296); (try revert u297); (try revert u298); (try revert u299); (try revert u3); (try revert u30); (try revert u31); (try revert u32); (try revert u33); (try revert u34); (try revert u35)
                                      (try revert u36); (try revert u37); (try revert u38); (try revert u39); (try revert u4); (try revert u40); (try revert u41); (try revert u42); (try revert u43); (try revert u44); (try revert u45); (try revert u46); (try revert u47); (try revert u48); (try revert u49); (try revert u5); (try revert u50); (try revert u51); (try revert u52); (try revert u53); (try revert u54); (try revert u55); (try revert u56); (try revert u57); (try revert u58)
                                      (try revert u59); (try revert u6); (try revert u60); (try revert u61); (try revert u62); (try revert u63); (try revert u64); (try revert u65); (try revert u66); (try revert u67); (try revert u68); (try revert u69); (try revert u7); (try revert u70); (try revert u71); (try revert u72); (try revert u73); (try revert u74); (try revert u75); (try revert u76); (try revert u77); (try revert u78); (try revert u79); (try revert u8); (try revert u80)
                                      (try revert u81); (try revert u82); (try revert u83); (try revert u84); (try revert u85); (try revert u86); (try revert u87); (try revert u88); (try revert u89); (try revert u8_and1); (try revert u9); (try revert u90); (try revert u91); (try revert u92); (try revert u93); (try revert u94); (try revert u95); (try revert u96); (try revert u97); (try revert u98); (try revert u99); (try revert us_made); (try revert v); (try revert v0); (try revert v1)
                                      (try revert v2); (try revert v3); (try revert v4); (try revert v5); (try revert va); (try revert vd); (try revert ve); (try revert vv); (try revert w); (try revert w1); (try revert w2); (try revert w3); (try revert w4); (try revert w5); (try revert wc); (try revert wq); (try revert wr); (try revert wx); (try revert x); (try revert x0); (try revert x1); (try revert x2); (try revert x3); (try revert x4); (try revert x5)
                                      (try revert x6); (try revert x7); (try revert xb); (try revert xe); (try revert xo); (try revert y); (try revert z)
                                      repeat (rename_i zz; revert zz)
                                      exact HYPC.out
                                    · try clear HYPF0
                                      try clear HYPF1
                                      try clear HYPF2
                                      try clear HYPF3
                                      try clear HYPG
                                      try clear HYPA
                                      try clear HYPB
                                      try clear HYPC
                                      skip
                                      repeat (rename_i zz; revert zz)
                                      (try revert A); (try revert A'); (try revert A0); (try revert And); (try revert ArgN); (try revert B); (try revert Below); (try revert Bool); (try revert Box6); (try revert Bv); (try revert C); (try revert Chg); (try revert F); (try revert FewV); (try revert GOk); (try revert HAA); (try revert HB1); (try revert HB2); (try revert HB3); (try revert HB4); (try revert HB5); (try revert HB56); (try revert HB6); (try revert HB8); (try revert HBC)
                                      (try revert HBR); (try revert HBW); (try revert HBZ); (try revert HC1); (try revert HCO); (try revert HDLE); (try revert HDO); (try revert HDO5); (try revert HEV); (try revert HF6); (try revert HFEW); (try revert HG); (try revert HGW); (try revert HI); (try revert HK); (try revert HK6); (try revert HM1); (try revert HM2); (try revert HM3); (try revert HM4); (try revert HM5); (try revert HMLT); (try revert HMM); (try revert HN); (try revert HNN)
                                      (try revert HNR); (try revert HNR2); (try revert HOK); (try revert HP); (try revert HPB); (try revert HPK); (try revert HPP); (try revert HPW); (try revert HQ); (try revert HR5); (try revert HS6); (try revert HSQ); (try revert HST); (try revert HSZ); (try revert HSZ5); (try revert HTR); (try revert HTZ); (try revert HU6); (try revert HV); (try revert HVB); (try revert HVB5); (try revert HVF5); (try revert HVW); (try revert HW3); (try revert HW4)
                                      (try revert HW5); (try revert HWB); (try revert HWF); (try revert HWI); (try revert HWS); (try revert HY); (try revert HZ); (try revert Hid); (try revert Instr); (try revert Int); (try revert L); (try revert Lib); (try revert M); (try revert MemAt); (try revert MidR); (try revert Nat); (try revert Off); (try revert P); (try revert P0); (try revert P1); (try revert P2); (try revert PRel); (try revert Sem); (try revert Sq); (try revert True)
                                      (try revert Tryd); (try revert U1); (try revert U2); (try revert Us); (try revert VersN); (try revert W); (try revert W4); (try revert W6); (try revert World); (try revert a); (try revert absurd); (try revert al_new); (try revert atStart); (try revert awake_any); (try revert b); (try revert b'); (try revert b1); (try revert b2); (try revert b3); (try revert b4); (try revert ba); (try revert bn); (try revert bv); (try revert by_cases); (try revert cA)
                                      (try revert cD); (try revert cE); (try revert cV); (try revert ca); (try revert ca'); (try revert cell_lt); (try revert core_start); (try revert cp); (try revert cp1); (try revert cu1); (try revert cu2); (try revert d); (try revert d1); (try revert d2); (try revert dnew_any); (try revert done); (try revert dw_rows2); (try revert dwords_any); (try revert e); (try revert e'); (try revert e1); (try revert e2); (try revert ev); (try revert f); (try revert f1)
                                      (try revert f2); (try revert fail); (try revert few_yes); (try revert fitB_yes); (try revert frozen_at); (try revert g); (try revert h1); (try revert h2); (try revert h3); (try revert h4); (try revert h5); (try revert h6); (try revert hA); (try revert hA'); (try revert hA0); (try revert hB); (try revert hB1); (try revert hB2); (try revert hB2'); (try revert hB3); (try revert hB4); (try revert hB45); (try revert hB5); (try revert hB56); (try revert hB6)
                                      (try revert hC); (try revert hC1); (try revert hCh); (try revert hCo); (try revert hF6); (try revert hG); (try revert hHeld); (try revert hL0); (try revert hL2); (try revert hM); (try revert hM1); (try revert hM3); (try revert hM5); (try revert hM6); (try revert hN); (try revert hNp); (try revert hP); (try revert hR4); (try revert hR5); (try revert hSQ6); (try revert hU6); (try revert hV); (try revert hW); (try revert hW4); (try revert hW5)
                                      (try revert hW6); (try revert hWs); (try revert hWs4); (try revert ha1); (try revert ha2); (try revert hb); (try revert hb'); (try revert hb1); (try revert hb2); (try revert hb3); (try revert hb4); (try revert hb6); (try revert hb8); (try revert hbad); (try revert hbw); (try revert hc'); (try revert hcut); (try revert hdO); (try revert hdo); (try revert hdo6); (try revert hdw); (try revert hev); (try revert hfew); (try revert hg1); (try revert hgg)
                                      (try revert hgi); (try revert hgi2); (try revert hi); (try revert hib); (try revert hk); (try revert hk0); (try revert hk2); (try revert hl1); (try revert hl2); (try revert hl3); (try revert hl4); (try revert hlt); (try revert hm6); (try revert hmk); (try revert hmlt); (try revert hn); (try revert hnn); (try revert hnn2); (try revert hok); (try revert hp); (try revert hpk); (try revert hpl); (try revert hqt); (try revert hr52); (try revert hrel)
                                      (try revert hs5); (try revert hs6); (try revert hsn); (try revert hst); (try revert hsz3); (try revert hsz52); (try revert hsz6); (try revert hsz7); (try revert hszz); (try revert htr); (try revert htt); (try revert htw); (try revert hv4); (try revert hv42); (try revert hvb); (try revert hvb6); (try revert hvf); (try revert hvf6); (try revert hw6); (try revert hwA); (try revert hwb); (try revert hwf); (try revert hwlt); (try revert hws); (try revert hws2)
                                      (try revert hwsz); (try revert hwws); (try revert hx); (try revert hxt); (try revert hxw); (try revert hy); (try revert hz); (try revert i); (try revert ib); (try revert info22); (try revert intOf); (try revert j); (try revert k); (try revert k0); (try revert k1); (try revert k2); (try revert kept); (try revert kk0); (try revert kk1); (try revert lv); (try revert madeCells); (try revert n); (try revert new_one); (try revert newr_yes); (try revert neww_sim)
                                      (try revert nin); (try revert nn); (try revert none); (try revert np); (try revert nq); (try revert o); (try revert o'); (try revert ofl); (try revert p); (try revert p0); (try revert p0'); (try revert p1); (try revert p1'); (try revert p2); (try revert p2'); (try revert pA); (try revert pD); (try revert pE); (try revert pV); (try revert pa); (try revert pb); (try revert pc); (try revert pf); (try revert pk); (try revert pn)
                                      (try revert po); (try revert q0); (try revert q1); (try revert q2); (try revert qz); (try revert r1); (try revert r2); (try revert rd0); (try revert rename); (try revert rotate_left); (try revert round); (try revert rs); (try revert run_make_row'); (try revert s); (try revert s1); (try revert s2); (try revert six_of); (try revert some); (try revert tt); (try revert tw); (try revert u0); (try revert u1); (try revert u10); (try revert u100); (try revert u101)
                                      (try revert u102); (try revert u103); (try revert u104); (try revert u105); (try revert u106); (try revert u107); (try revert u108); (try revert u109); (try revert u11); (try revert u110); (try revert u111); (try revert u112); (try revert u113); (try revert u114); (try revert u115); (try revert u116); (try revert u117); (try revert u118); (try revert u119); (try revert u12); (try revert u120); (try revert u121); (try revert u122); (try revert u123); (try revert u124)
                                      (try revert u125); (try revert u126); (try revert u127); (try revert u128); (try revert u129); (try revert u13); (try revert u130); (try revert u131); (try revert u132); (try revert u133); (try revert u134); (try revert u135); (try revert u136); (try revert u137); (try revert u138); (try revert u139); (try revert u14); (try revert u140); (try revert u141); (try revert u142); (try revert u143); (try revert u144); (try revert u145); (try revert u146); (try revert u147)
                                      (try revert u148); (try revert u149); (try revert u15); (try revert u150); (try revert u151); (try revert u152); (try revert u153); (try revert u154); (try revert u155); (try revert u156); (try revert u157); (try revert u158); (try revert u159); (try revert u16); (try revert u160); (try revert u161); (try revert u162); (try revert u163); (try revert u164); (try revert u165); (try revert u166); (try revert u167); (try revert u168); (try revert u169); (try revert u17)
                                      (try revert u170); (try revert u171); (try revert u172); (try revert u173); (try revert u174); (try revert u175); (try revert u176); (try revert u177); (try revert u178); (try revert u179); (try revert u18); (try revert u180); (try revert u181); (try revert u182); (try revert u183); (try revert u184); (try revert u185); (try revert u186); (try revert u187); (try revert u188); (try revert u189); (try revert u19); (try revert u190); (try revert u191); (try revert u192)
                                      (try revert u193); (try revert u194); (try revert u195); (try revert u196); (try revert u197); (try revert u198); (try revert u199); (try revert u2); (try revert u20); (try revert u200); (try revert u201); (try revert u202); (try revert u203); (try revert u204); (try revert u205); (try revert u206); (try revert u207); (try revert u208); (try revert u209); (try revert u21); (try revert u210); (try revert u211); (try revert u212); (try revert u213); (try revert u214)
                                      (try revert u215); (try revert u216); (try revert u217); (try revert u218); (try revert u219); (try revert u22); (try revert u220); (try revert u221); (try revert u222); (try revert u223); (try revert u224); (try revert u225); (try revert u226); (try revert u227); (try revert u228); (try revert u229); (try revert u23); (try revert u230); (try revert u231); (try revert u232); (try revert u233); (try revert u234); (try revert u235); (try revert u236); (try revert u237)
                                      (try revert u238); (try revert u239); (try revert u24); (try revert u240); (try revert u241); (try revert u242); (try revert u243); (try revert u244); (try revert u245); (try revert u246); (try revert u247); (try revert u248); (try revert u249); (try revert u25); (try revert u250); (try revert u251); (try revert u252); (try revert u253); (try revert u254); (try revert u255); (try revert u256); (try revert u257); (try revert u258); (try revert u259); (try revert u26)
                                      (try revert u260); (try revert u261); (try revert u262); (try revert u263); (try revert u264); (try revert u265); (try revert u266); (try revert u267); (try revert u268); (try revert u269); (try revert u27); (try revert u270); (try revert u271); (try revert u272); (try revert u273); (try revert u274); (try revert u275); (try revert u276); (try revert u277); (try revert u278); (try revert u279); (try revert u28); (try revert u280); (try revert u281); (try revert u282)
                                      (try revert u283); (try revert u284); (try revert u285); (try revert u286); (try revert u287); (try revert u288); (try revert u289); (try revert u29); (try revert u290); (try revert u291); (try revert u292); (try revert u293); (try revert u294); (try revert u295); (try revert u296); (try revert u297); (try revert u298); (try revert u299); (try revert u3); (try revert u30); (try revert u31); (try revert u32); (try revert u33); (try revert u34); (try revert u35)
                                      (try revert u36); (try revert u37); (try revert u38); (try revert u39); (try revert u4); (try revert u40); (try revert u41); (try revert u42); (try revert u43); (try revert u44); (try revert u45); (try revert u46); (try revert u47); (try revert u48); (try revert u49); (try revert u5); (try revert u50); (try revert u51); (try revert u52); (try revert u53); (try revert u54); (try revert u55); (try revert u56); (try revert u57); (try revert u58)
                                      (try revert u59); (try revert u6); (try revert u60); (try revert u61); (try revert u62); (try revert u63); (try revert u64); (try revert u65); (try revert u66); (try revert u67); (try revert u68); (try revert u69); (try revert u7); (try revert u70); (try revert u71); (try revert u72); (try revert u73); (try revert u74); (try revert u75); (try revert u76); (try revert u77); (try revert u78); (try revert u79); (try revert u8); (try revert u80)
                                      (try revert u81); (try revert u82); (try revert u83); (try revert u84); (try revert u85); (try revert u86); (try revert u87); (try revert u88); (try revert u89); (try revert u8_and1); (try revert u9); (try revert u90); (try revert u91); (try revert u92); (try revert u93); (try revert u94); (try revert u95); (try revert u96); (try revert u97); (try revert u98); (try revert u99); (try revert us_made); (try revert v); (try revert v0); (try revert v1)
                                      (try revert v2); (try revert v3); (try revert v4); (try revert v5); (try revert va); (try revert vd); (try revert ve); (try revert vv); (try revert w); (try revert w1); (try revert w2); (try revert w3); (try revert w4); (try revert w5); (try revert wc); (try revert wq); (try revert wr); (try revert wx); (try revert x); (try revert x0); (try revert x1); (try revert x2); (try revert x3); (try revert x4); (try revert x5)
                                      (try revert x6); (try revert x7); (try revert xb); (try revert xe); (try revert xo); (try revert y); (try revert z)
                                      repeat (rename_i zz; revert zz)
                                      exact HYPD.out
                          · try clear HYPF0
                            try clear HYPF1
                            try clear HYPF2
                            try clear HYPF3
                            try clear HYPG
                            try clear HYPA
                            try clear HYPB
                            try clear HYPC
                            try clear HYPD
                            have hge : (np : Int) ≤ k ∨ (200 : Int) ≤ k := by omega
                            by_cases hge2 : (np : Int) ≤ k
                            · try clear HYPF0
                              try clear HYPF1
                              try clear HYPF2
                              try clear HYPF3
                              try clear HYPG
                              try clear HYPA
                              try clear HYPB
                              try clear HYPC
                              try clear HYPD
                              go_wp2_with fail
                              go_ret
                              exact ⟨rfl, HBR.out⟩
                            · try clear HYPF0
                              try clear HYPF1
                              try clear HYPF2
                              try clear HYPF3
                              try clear HYPG
                              try clear HYPA
                              try clear HYPB
                              try clear HYPC
                              try clear HYPD
                              have hge3 : (200 : Int) ≤ k := by omega
                              have hge4 : (k : Int) < np := by omega
                              go_wp2_with fail
                              go_ret
                              exact ⟨rfl, HBR.out⟩
              · try clear HYPF0
                try clear HYPF1
                try clear HYPF2
                try clear HYPF3
                try clear HYPG
                try clear HYPA
                try clear HYPB
                try clear HYPC
                try clear HYPD
                skip
                repeat (rename_i zz; revert zz)
                (try revert A); (try revert A'); (try revert A0); (try revert And); (try revert ArgN); (try revert B); (try revert Below); (try revert Bool); (try revert Box6); (try revert Bv); (try revert C); (try revert Chg); (try revert F); (try revert FewV); (try revert GOk); (try revert HAA); (try revert HB1); (try revert HB2); (try revert HB3); (try revert HB4); (try revert HB5); (try revert HB56); (try revert HB6); (try revert HB8); (try revert HBC)
                (try revert HBR); (try revert HBW); (try revert HBZ); (try revert HC1); (try revert HCO); (try revert HDLE); (try revert HDO); (try revert HDO5); (try revert HEV); (try revert HF6); (try revert HFEW); (try revert HG); (try revert HGW); (try revert HI); (try revert HK); (try revert HK6); (try revert HM1); (try revert HM2); (try revert HM3); (try revert HM4); (try revert HM5); (try revert HMLT); (try revert HMM); (try revert HN); (try revert HNN)
                (try revert HNR); (try revert HNR2); (try revert HOK); (try revert HP); (try revert HPB); (try revert HPK); (try revert HPP); (try revert HPW); (try revert HQ); (try revert HR5); (try revert HS6); (try revert HSQ); (try revert HST); (try revert HSZ); (try revert HSZ5); (try revert HTR); (try revert HTZ); (try revert HU6); (try revert HV); (try revert HVB); (try revert HVB5); (try revert HVF5); (try revert HVW); (try revert HW3); (try revert HW4)
                (try revert HW5); (try revert HWB); (try revert HWF); (try revert HWI); (try revert HWS); (try revert HY); (try revert HZ); (try revert Hid); (try revert Instr); (try revert Int); (try revert L); (try revert Lib); (try revert M); (try revert MemAt); (try revert MidR); (try revert Nat); (try revert Off); (try revert P); (try revert P0); (try revert P1); (try revert P2); (try revert PRel); (try revert Sem); (try revert Sq); (try revert True)
                (try revert Tryd); (try revert U1); (try revert U2); (try revert Us); (try revert VersN); (try revert W); (try revert W4); (try revert W6); (try revert World); (try revert a); (try revert absurd); (try revert al_new); (try revert atStart); (try revert awake_any); (try revert b); (try revert b'); (try revert b1); (try revert b2); (try revert b3); (try revert b4); (try revert ba); (try revert bn); (try revert bv); (try revert by_cases); (try revert cA)
                (try revert cD); (try revert cE); (try revert cV); (try revert ca); (try revert ca'); (try revert cell_lt); (try revert core_start); (try revert cp); (try revert cp1); (try revert cu1); (try revert cu2); (try revert d); (try revert d1); (try revert d2); (try revert dnew_any); (try revert done); (try revert dw_rows2); (try revert dwords_any); (try revert e); (try revert e'); (try revert e1); (try revert e2); (try revert ev); (try revert f); (try revert f1)
                (try revert f2); (try revert fail); (try revert few_yes); (try revert fitB_yes); (try revert frozen_at); (try revert g); (try revert h1); (try revert h2); (try revert h3); (try revert h4); (try revert h5); (try revert h6); (try revert hA); (try revert hA'); (try revert hA0); (try revert hB); (try revert hB1); (try revert hB2); (try revert hB2'); (try revert hB3); (try revert hB4); (try revert hB45); (try revert hB5); (try revert hB56); (try revert hB6)
                (try revert hC); (try revert hC1); (try revert hCh); (try revert hCo); (try revert hF6); (try revert hG); (try revert hHeld); (try revert hL0); (try revert hL2); (try revert hM); (try revert hM1); (try revert hM3); (try revert hM5); (try revert hM6); (try revert hN); (try revert hNp); (try revert hP); (try revert hR4); (try revert hR5); (try revert hSQ6); (try revert hU6); (try revert hV); (try revert hW); (try revert hW4); (try revert hW5)
                (try revert hW6); (try revert hWs); (try revert hWs4); (try revert ha1); (try revert ha2); (try revert hb); (try revert hb'); (try revert hb1); (try revert hb2); (try revert hb3); (try revert hb4); (try revert hb6); (try revert hb8); (try revert hbad); (try revert hbw); (try revert hc'); (try revert hcut); (try revert hdO); (try revert hdo); (try revert hdo6); (try revert hdw); (try revert hev); (try revert hfew); (try revert hg1); (try revert hge)
                (try revert hge2); (try revert hge3); (try revert hge4); (try revert hgg); (try revert hgi); (try revert hgi2); (try revert hi); (try revert hib); (try revert hk); (try revert hk0); (try revert hk2); (try revert hl1); (try revert hl2); (try revert hl3); (try revert hl4); (try revert hlt); (try revert hm6); (try revert hmk); (try revert hmlt); (try revert hn); (try revert hnn); (try revert hnn2); (try revert hok); (try revert hp); (try revert hpk)
                (try revert hpl); (try revert hqt); (try revert hr52); (try revert hrel); (try revert hs5); (try revert hs6); (try revert hsn); (try revert hst); (try revert hsz3); (try revert hsz52); (try revert hsz6); (try revert hsz7); (try revert hszz); (try revert htr); (try revert htt); (try revert htw); (try revert hv4); (try revert hv42); (try revert hvb); (try revert hvb6); (try revert hvf); (try revert hvf6); (try revert hw6); (try revert hwA); (try revert hwb)
                (try revert hwf); (try revert hwlt); (try revert hws); (try revert hws2); (try revert hwsz); (try revert hwws); (try revert hx); (try revert hxt); (try revert hxw); (try revert hy); (try revert hz); (try revert i); (try revert ib); (try revert info22); (try revert intOf); (try revert j); (try revert k); (try revert k0); (try revert k1); (try revert k2); (try revert kept); (try revert kk0); (try revert kk1); (try revert lv); (try revert madeCells)
                (try revert n); (try revert new_one); (try revert newr_yes); (try revert neww_sim); (try revert nin); (try revert nn); (try revert none); (try revert np); (try revert nq); (try revert o); (try revert o'); (try revert ofl); (try revert p); (try revert p0); (try revert p0'); (try revert p1); (try revert p1'); (try revert p2); (try revert p2'); (try revert pA); (try revert pD); (try revert pE); (try revert pV); (try revert pa); (try revert pb)
                (try revert pc); (try revert pf); (try revert pk); (try revert pn); (try revert po); (try revert q0); (try revert q1); (try revert q2); (try revert qz); (try revert r1); (try revert r2); (try revert rd0); (try revert rename); (try revert rotate_left); (try revert round); (try revert rs); (try revert run_make_row'); (try revert s); (try revert s1); (try revert s2); (try revert six_of); (try revert some); (try revert tt); (try revert tw); (try revert u0)
                (try revert u1); (try revert u10); (try revert u100); (try revert u101); (try revert u102); (try revert u103); (try revert u104); (try revert u105); (try revert u106); (try revert u107); (try revert u108); (try revert u109); (try revert u11); (try revert u110); (try revert u111); (try revert u112); (try revert u113); (try revert u114); (try revert u115); (try revert u116); (try revert u117); (try revert u118); (try revert u119); (try revert u12); (try revert u120)
                (try revert u121); (try revert u122); (try revert u123); (try revert u124); (try revert u125); (try revert u126); (try revert u127); (try revert u128); (try revert u129); (try revert u13); (try revert u130); (try revert u131); (try revert u132); (try revert u133); (try revert u134); (try revert u135); (try revert u136); (try revert u137); (try revert u138); (try revert u139); (try revert u14); (try revert u140); (try revert u141); (try revert u142); (try revert u143)
                (try revert u144); (try revert u145); (try revert u146); (try revert u147); (try revert u148); (try revert u149); (try revert u15); (try revert u150); (try revert u151); (try revert u152); (try revert u153); (try revert u154); (try revert u155); (try revert u156); (try revert u157); (try revert u158); (try revert u159); (try revert u16); (try revert u160); (try revert u161); (try revert u162); (try revert u163); (try revert u164); (try revert u165); (try revert u166)
                (try revert u167); (try revert u168); (try revert u169); (try revert u17); (try revert u170); (try revert u171); (try revert u172); (try revert u173); (try revert u174); (try revert u175); (try revert u176); (try revert u177); (try revert u178); (try revert u179); (try revert u18); (try revert u180); (try revert u181); (try revert u182); (try revert u183); (try revert u184); (try revert u185); (try revert u186); (try revert u187); (try revert u188); (try revert u189)
                (try revert u19); (try revert u190); (try revert u191); (try revert u192); (try revert u193); (try revert u194); (try revert u195); (try revert u196); (try revert u197); (try revert u198); (try revert u199); (try revert u2); (try revert u20); (try revert u200); (try revert u201); (try revert u202); (try revert u203); (try revert u204); (try revert u205); (try revert u206); (try revert u207); (try revert u208); (try revert u209); (try revert u21); (try revert u210)
                (try revert u211); (try revert u212); (try revert u213); (try revert u214); (try revert u215); (try revert u216); (try revert u217); (try revert u218); (try revert u219); (try revert u22); (try revert u220); (try revert u221); (try revert u222); (try revert u223); (try revert u224); (try revert u225); (try revert u226); (try revert u227); (try revert u228); (try revert u229); (try revert u23); (try revert u230); (try revert u231); (try revert u232); (try revert u233)
                (try revert u234); (try revert u235); (try revert u236); (try revert u237); (try revert u238); (try revert u239); (try revert u24); (try revert u240); (try revert u241); (try revert u242); (try revert u243); (try revert u244); (try revert u245); (try revert u246); (try revert u247); (try revert u248); (try revert u249); (try revert u25); (try revert u250); (try revert u251); (try revert u252); (try revert u253); (try revert u254); (try revert u255); (try revert u256)
                (try revert u257); (try revert u258); (try revert u259); (try revert u26); (try revert u260); (try revert u261); (try revert u262); (try revert u263); (try revert u264); (try revert u265); (try revert u266); (try revert u267); (try revert u268); (try revert u269); (try revert u27); (try revert u270); (try revert u271); (try revert u272); (try revert u273); (try revert u274); (try revert u275); (try revert u276); (try revert u277); (try revert u278); (try revert u279)
                (try revert u28); (try revert u280); (try revert u281); (try revert u282); (try revert u283); (try revert u284); (try revert u285); (try revert u286); (try revert u287); (try revert u288); (try revert u289); (try revert u29); (try revert u290); (try revert u291); (try revert u292); (try revert u293); (try revert u294); (try revert u295); (try revert u296); (try revert u297); (try revert u298); (try revert u299); (try revert u3); (try revert u30); (try revert u31)
                (try revert u32); (try revert u33); (try revert u34); (try revert u35); (try revert u36); (try revert u37); (try revert u38); (try revert u39); (try revert u4); (try revert u40); (try revert u41); (try revert u42); (try revert u43); (try revert u44); (try revert u45); (try revert u46); (try revert u47); (try revert u48); (try revert u49); (try revert u5); (try revert u50); (try revert u51); (try revert u52); (try revert u53); (try revert u54)
                (try revert u55); (try revert u56); (try revert u57); (try revert u58); (try revert u59); (try revert u6); (try revert u60); (try revert u61); (try revert u62); (try revert u63); (try revert u64); (try revert u65); (try revert u66); (try revert u67); (try revert u68); (try revert u69); (try revert u7); (try revert u70); (try revert u71); (try revert u72); (try revert u73); (try revert u74); (try revert u75); (try revert u76); (try revert u77)
                (try revert u78); (try revert u79); (try revert u8); (try revert u80); (try revert u81); (try revert u82); (try revert u83); (try revert u84); (try revert u85); (try revert u86); (try revert u87); (try revert u88); (try revert u89); (try revert u8_and1); (try revert u9); (try revert u90); (try revert u91); (try revert u92); (try revert u93); (try revert u94); (try revert u95); (try revert u96); (try revert u97); (try revert u98); (try revert u99)
                (try revert us_made); (try revert v); (try revert v0); (try revert v1); (try revert v2); (try revert v3); (try revert v4); (try revert v5); (try revert va); (try revert vd); (try revert ve); (try revert vv); (try revert w); (try revert w1); (try revert w2); (try revert w3); (try revert w4); (try revert w5); (try revert wc); (try revert wq); (try revert wr); (try revert wx); (try revert x); (try revert x0); (try revert x1)
                (try revert x2); (try revert x3); (try revert x4); (try revert x5); (try revert x6); (try revert x7); (try revert xb); (try revert xe); (try revert xo); (try revert y); (try revert z)
                repeat (rename_i zz; revert zz)
                exact HYPS1.out
            · try clear HYPF0
              try clear HYPF1
              try clear HYPF2
              try clear HYPF3
              try clear HYPG
              try clear HYPA
              try clear HYPB
              try clear HYPC
              try clear HYPD
              try clear HYPS1
              skip
              repeat (rename_i zz; revert zz)
              (try revert A); (try revert A'); (try revert A0); (try revert And); (try revert ArgN); (try revert B); (try revert Below); (try revert Bool); (try revert Box6); (try revert Bv); (try revert C); (try revert Chg); (try revert F); (try revert FewV); (try revert GOk); (try revert HAA); (try revert HB1); (try revert HB2); (try revert HB3); (try revert HB4); (try revert HB5); (try revert HB56); (try revert HB6); (try revert HB8); (try revert HBC)
              (try revert HBR); (try revert HBW); (try revert HBZ); (try revert HC1); (try revert HCO); (try revert HDLE); (try revert HDO); (try revert HDO5); (try revert HEV); (try revert HF6); (try revert HFEW); (try revert HG); (try revert HGW); (try revert HI); (try revert HK); (try revert HK6); (try revert HM1); (try revert HM2); (try revert HM3); (try revert HM4); (try revert HM5); (try revert HMLT); (try revert HMM); (try revert HN); (try revert HNN)
              (try revert HNR); (try revert HNR2); (try revert HOK); (try revert HP); (try revert HPB); (try revert HPK); (try revert HPP); (try revert HPW); (try revert HQ); (try revert HR5); (try revert HS6); (try revert HSQ); (try revert HST); (try revert HSZ); (try revert HSZ5); (try revert HTR); (try revert HTZ); (try revert HU6); (try revert HV); (try revert HVB); (try revert HVB5); (try revert HVF5); (try revert HVW); (try revert HW3); (try revert HW4)
              (try revert HW5); (try revert HWB); (try revert HWF); (try revert HWI); (try revert HWS); (try revert HY); (try revert HZ); (try revert Hid); (try revert Instr); (try revert Int); (try revert L); (try revert Lib); (try revert M); (try revert MemAt); (try revert MidR); (try revert Nat); (try revert Off); (try revert P); (try revert P0); (try revert P1); (try revert P2); (try revert PRel); (try revert Sem); (try revert Sq); (try revert True)
              (try revert Tryd); (try revert U1); (try revert U2); (try revert Us); (try revert VersN); (try revert W); (try revert W4); (try revert W6); (try revert World); (try revert a); (try revert absurd); (try revert al_new); (try revert atStart); (try revert awake_any); (try revert b); (try revert b'); (try revert b1); (try revert b2); (try revert b3); (try revert b4); (try revert ba); (try revert bn); (try revert bv); (try revert by_cases); (try revert cA)
              (try revert cD); (try revert cE); (try revert cV); (try revert ca); (try revert ca'); (try revert cell_lt); (try revert core_start); (try revert cp); (try revert cp1); (try revert cu1); (try revert cu2); (try revert d); (try revert d1); (try revert d2); (try revert dnew_any); (try revert done); (try revert dw_rows2); (try revert dwords_any); (try revert e); (try revert e'); (try revert e1); (try revert e2); (try revert ev); (try revert f); (try revert f1)
              (try revert f2); (try revert fail); (try revert few_yes); (try revert fitB_yes); (try revert frozen_at); (try revert g); (try revert h1); (try revert h2); (try revert h3); (try revert h4); (try revert h5); (try revert h6); (try revert hA); (try revert hA'); (try revert hA0); (try revert hB); (try revert hB1); (try revert hB2); (try revert hB2'); (try revert hB3); (try revert hB4); (try revert hB45); (try revert hB5); (try revert hB56); (try revert hB6)
              (try revert hC); (try revert hC1); (try revert hCh); (try revert hCo); (try revert hF6); (try revert hG); (try revert hHeld); (try revert hL0); (try revert hL2); (try revert hM); (try revert hM1); (try revert hM3); (try revert hM5); (try revert hM6); (try revert hN); (try revert hNp); (try revert hP); (try revert hR4); (try revert hR5); (try revert hSQ6); (try revert hU6); (try revert hV); (try revert hW); (try revert hW4); (try revert hW5)
              (try revert hW6); (try revert hWs); (try revert hWs4); (try revert ha1); (try revert ha2); (try revert hb); (try revert hb'); (try revert hb1); (try revert hb2); (try revert hb3); (try revert hb4); (try revert hb6); (try revert hb8); (try revert hbad); (try revert hbw); (try revert hc'); (try revert hcut); (try revert hdO); (try revert hdo); (try revert hdo6); (try revert hdw); (try revert hev); (try revert hfew); (try revert hg1); (try revert hge)
              (try revert hge2); (try revert hge3); (try revert hge4); (try revert hgg); (try revert hgi); (try revert hgi2); (try revert hi); (try revert hib); (try revert hk); (try revert hk0); (try revert hk2); (try revert hl1); (try revert hl2); (try revert hl3); (try revert hl4); (try revert hlt); (try revert hm6); (try revert hmk); (try revert hmlt); (try revert hn); (try revert hnn); (try revert hnn2); (try revert hok); (try revert hp); (try revert hpk)
              (try revert hpl); (try revert hqt); (try revert hr52); (try revert hrel); (try revert hs5); (try revert hs6); (try revert hsn); (try revert hst); (try revert hsz3); (try revert hsz52); (try revert hsz6); (try revert hsz7); (try revert hszz); (try revert htr); (try revert htt); (try revert htw); (try revert hv4); (try revert hv42); (try revert hvb); (try revert hvb6); (try revert hvf); (try revert hvf6); (try revert hw6); (try revert hwA); (try revert hwb)
              (try revert hwf); (try revert hwlt); (try revert hws); (try revert hws2); (try revert hwsz); (try revert hwws); (try revert hx); (try revert hxt); (try revert hxw); (try revert hy); (try revert hz); (try revert i); (try revert ib); (try revert info22); (try revert intOf); (try revert j); (try revert k); (try revert k0); (try revert k1); (try revert k2); (try revert kept); (try revert kk0); (try revert kk1); (try revert lv); (try revert madeCells)
              (try revert n); (try revert new_one); (try revert newr_yes); (try revert neww_sim); (try revert nin); (try revert nn); (try revert none); (try revert np); (try revert nq); (try revert o); (try revert o'); (try revert ofl); (try revert p); (try revert p0); (try revert p0'); (try revert p1); (try revert p1'); (try revert p2); (try revert p2'); (try revert pA); (try revert pD); (try revert pE); (try revert pV); (try revert pa); (try revert pb)
              (try revert pc); (try revert pf); (try revert pk); (try revert pn); (try revert po); (try revert q0); (try revert q1); (try revert q2); (try revert qz); (try revert r1); (try revert r2); (try revert rd0); (try revert rename); (try revert rotate_left); (try revert round); (try revert rs); (try revert run_make_row'); (try revert s); (try revert s1); (try revert s2); (try revert six_of); (try revert some); (try revert tt); (try revert tw); (try revert u0)
              (try revert u1); (try revert u10); (try revert u100); (try revert u101); (try revert u102); (try revert u103); (try revert u104); (try revert u105); (try revert u106); (try revert u107); (try revert u108); (try revert u109); (try revert u11); (try revert u110); (try revert u111); (try revert u112); (try revert u113); (try revert u114); (try revert u115); (try revert u116); (try revert u117); (try revert u118); (try revert u119); (try revert u12); (try revert u120)
              (try revert u121); (try revert u122); (try revert u123); (try revert u124); (try revert u125); (try revert u126); (try revert u127); (try revert u128); (try revert u129); (try revert u13); (try revert u130); (try revert u131); (try revert u132); (try revert u133); (try revert u134); (try revert u135); (try revert u136); (try revert u137); (try revert u138); (try revert u139); (try revert u14); (try revert u140); (try revert u141); (try revert u142); (try revert u143)
              (try revert u144); (try revert u145); (try revert u146); (try revert u147); (try revert u148); (try revert u149); (try revert u15); (try revert u150); (try revert u151); (try revert u152); (try revert u153); (try revert u154); (try revert u155); (try revert u156); (try revert u157); (try revert u158); (try revert u159); (try revert u16); (try revert u160); (try revert u161); (try revert u162); (try revert u163); (try revert u164); (try revert u165); (try revert u166)
              (try revert u167); (try revert u168); (try revert u169); (try revert u17); (try revert u170); (try revert u171); (try revert u172); (try revert u173); (try revert u174); (try revert u175); (try revert u176); (try revert u177); (try revert u178); (try revert u179); (try revert u18); (try revert u180); (try revert u181); (try revert u182); (try revert u183); (try revert u184); (try revert u185); (try revert u186); (try revert u187); (try revert u188); (try revert u189)
              (try revert u19); (try revert u190); (try revert u191); (try revert u192); (try revert u193); (try revert u194); (try revert u195); (try revert u196); (try revert u197); (try revert u198); (try revert u199); (try revert u2); (try revert u20); (try revert u200); (try revert u201); (try revert u202); (try revert u203); (try revert u204); (try revert u205); (try revert u206); (try revert u207); (try revert u208); (try revert u209); (try revert u21); (try revert u210)
              (try revert u211); (try revert u212); (try revert u213); (try revert u214); (try revert u215); (try revert u216); (try revert u217); (try revert u218); (try revert u219); (try revert u22); (try revert u220); (try revert u221); (try revert u222); (try revert u223); (try revert u224); (try revert u225); (try revert u226); (try revert u227); (try revert u228); (try revert u229); (try revert u23); (try revert u230); (try revert u231); (try revert u232); (try revert u233)
              (try revert u234); (try revert u235); (try revert u236); (try revert u237); (try revert u238); (try revert u239); (try revert u24); (try revert u240); (try revert u241); (try revert u242); (try revert u243); (try revert u244); (try revert u245); (try revert u246); (try revert u247); (try revert u248); (try revert u249); (try revert u25); (try revert u250); (try revert u251); (try revert u252); (try revert u253); (try revert u254); (try revert u255); (try revert u256)
              (try revert u257); (try revert u258); (try revert u259); (try revert u26); (try revert u260); (try revert u261); (try revert u262); (try revert u263); (try revert u264); (try revert u265); (try revert u266); (try revert u267); (try revert u268); (try revert u269); (try revert u27); (try revert u270); (try revert u271); (try revert u272); (try revert u273); (try revert u274); (try revert u275); (try revert u276); (try revert u277); (try revert u278); (try revert u279)
              (try revert u28); (try revert u280); (try revert u281); (try revert u282); (try revert u283); (try revert u284); (try revert u285); (try revert u286); (try revert u287); (try revert u288); (try revert u289); (try revert u29); (try revert u290); (try revert u291); (try revert u292); (try revert u293); (try revert u294); (try revert u295); (try revert u296); (try revert u297); (try revert u298); (try revert u299); (try revert u3); (try revert u30); (try revert u31)
              (try revert u32); (try revert u33); (try revert u34); (try revert u35); (try revert u36); (try revert u37); (try revert u38); (try revert u39); (try revert u4); (try revert u40); (try revert u41); (try revert u42); (try revert u43); (try revert u44); (try revert u45); (try revert u46); (try revert u47); (try revert u48); (try revert u49); (try revert u5); (try revert u50); (try revert u51); (try revert u52); (try revert u53); (try revert u54)
              (try revert u55); (try revert u56); (try revert u57); (try revert u58); (try revert u59); (try revert u6); (try revert u60); (try revert u61); (try revert u62); (try revert u63); (try revert u64); (try revert u65); (try revert u66); (try revert u67); (try revert u68); (try revert u69); (try revert u7); (try revert u70); (try revert u71); (try revert u72); (try revert u73); (try revert u74); (try revert u75); (try revert u76); (try revert u77)
              (try revert u78); (try revert u79); (try revert u8); (try revert u80); (try revert u81); (try revert u82); (try revert u83); (try revert u84); (try revert u85); (try revert u86); (try revert u87); (try revert u88); (try revert u89); (try revert u8_and1); (try revert u9); (try revert u90); (try revert u91); (try revert u92); (try revert u93); (try revert u94); (try revert u95); (try revert u96); (try revert u97); (try revert u98); (try revert u99)
              (try revert us_made); (try revert v); (try revert v0); (try revert v1); (try revert v2); (try revert v3); (try revert v4); (try revert v5); (try revert va); (try revert vd); (try revert ve); (try revert vv); (try revert w); (try revert w1); (try revert w2); (try revert w3); (try revert w4); (try revert w5); (try revert wc); (try revert wq); (try revert wr); (try revert wx); (try revert x); (try revert x0); (try revert x1)
              (try revert x2); (try revert x3); (try revert x4); (try revert x5); (try revert x6); (try revert x7); (try revert xb); (try revert xe); (try revert xo); (try revert y); (try revert z)
              repeat (rename_i zz; revert zz)
              exact HYPS2.out
  · try clear HYPF0
    try clear HYPF1
    try clear HYPF2
    try clear HYPF3
    try clear HYPG
    try clear HYPA
    try clear HYPB
    try clear HYPC
    try clear HYPD
    try clear HYPS1
    try clear HYPS2
    refine (few_no A L ca F w2 ((HVW.out.keep HB2.out).up HB2.out.size) hfew).mono ?_
    rintro e x1 ⟨rfl, rfl⟩
    go_wp2_with fail
    refine (awake_any w2 (HGW.out.keep HB2.out)).mono ?_
    rintro e w4 ⟨rfl, hB4⟩
    have HB4 := Lib.hid (HB2.out.trans (hB4.mono HB2.out.size))
    clear hB4
    go_wp2_with fail
    go_ret
    exact ⟨rfl, HWB.out.trans (HB4.out.mono (by have := HWS.out; omega))⟩⟩
end Go.Proofs.YtoaaeamogpdcgaaDoor
