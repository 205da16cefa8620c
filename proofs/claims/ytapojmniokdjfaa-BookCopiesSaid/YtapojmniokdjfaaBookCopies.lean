/- BookCopies: for any numbers, and any list of things that are done, the law returns true, and all read afterwards as before. No condition. -/
import Derived.Test.YtapojmniokdjfaaRows
import Derived.Test.YtapojmniokdjfaaBkDone
import Derived.Test.YtapojmniokdjfaaBkCopy
import Derived.WalkKit
import Derived.ProofKit
import Derived.OpenShut
import Derived.ShutString
import Derived.ChangeOld
import Derived.Below
namespace Go.Proofs.Ytapojmniokdjfaa
open Go.ChangeShapes Go.WideShapes Go.ChangeAt Go.RowKit
open Stp (blw al dr drN kp Stp.below RetP at_any rsame_any sameB sameB_iff inW)
open Bk
set_option linter.unusedVariables false
set_option maxRecDepth 100000 in
set_option maxHeartbeats 12800000 in
theorem walk_BookCopies (w : World) (n : Int) (wn : (Lit.int .u8 n).wf = true) (A : Option Addr) (c : Nat) (l : List DoD) (h : Dos w A c l) (B : Option Addr) (cb : Nat) (mo : List DoD) (h' : Dos w B cb mo) (C : Option Addr) (cc : Nat) (ids : List Int) (h'' : IdsA w C cc ids) :
    Calls Try.prog 5 #[.int .u8 n, .slice A l.length c, .slice B mo.length cb, .slice C ids.length cc] w fun e w' => e = .returned (.bool true) ∧ Below w.heap.size w w' := by
  have HK := Lib.hid known_any
  have hnb := u8b wn
  obtain ⟨ln, hln⟩ : ∃ ln, l.length = ln := ⟨_, rfl⟩
  obtain ⟨lm, hlm0⟩ : ∃ lm, mo.length = lm := ⟨_, rfl⟩
  obtain ⟨li, hli⟩ : ∃ li, ids.length = li := ⟨_, rfl⟩
  have hlm : ln ≤ 9223372036854775807 := by rw [← hln]; exact Nat.le_trans h.cap (by have := h.top; simpa [maxLen] using this)
  have hlm2 : lm ≤ 9223372036854775807 := by rw [← hlm0]; exact Nat.le_trans h'.cap (by have := h'.top; simpa [maxLen] using this)
  have hlm3 : li ≤ 9223372036854775807 := by rw [← hli]; exact Nat.le_trans h''.cap (by have := h''.top; simpa [maxLen] using this)
  rw [hln, hlm0, hli]
  clear wn
  by_cases h1 : 40 < ln
  · clear h h' h'' hln hlm0 hli
    go_enter Try.func5, Try.ntmps5
    go_wp2_with fail
    refine (HK.out _).mono ?_
    rintro e w' ⟨rfl, hw⟩
    go_wp2
    go_ret
    exact ⟨rfl, hw⟩
  by_cases h2 : 40 < lm
  · clear h h' h'' hln hlm0 hli
    go_enter Try.func5, Try.ntmps5
    go_wp2_with fail
    refine (HK.out _).mono ?_
    rintro e w' ⟨rfl, hw⟩
    go_wp2
    go_ret
    exact ⟨rfl, hw⟩
  by_cases h3 : 20 < li
  · clear h h' h'' hln hlm0 hli
    go_enter Try.func5, Try.ntmps5
    go_wp2_with fail
    refine (HK.out _).mono ?_
    rintro e w' ⟨rfl, hw⟩
    go_wp2
    go_ret
    exact ⟨rfl, hw⟩
  have hl40 : ln ≤ 40 := by omega
  have hm40 : lm ≤ 40 := by omega
  have hi20 : li ≤ 20 := by omega
  obtain ⟨N, hN⟩ : ∃ N, 1 + n = N := ⟨_, rfl⟩
  have HN1 : Hid (1 ≤ N ∧ N ≤ 10000) := Lib.hid (by omega)
  have HN := Lib.hid fun (W : World) => newb_yes N HN1.out W
  have HD := Lib.hid h; have HD2 := Lib.hid h'; have HID := Lib.hid h''
  have HLN := Lib.hid hln; have HLM := Lib.hid hlm0; have HLI := Lib.hid hli
  clear h h' h'' hln hlm0 hli h1 h2 h3
  go_enter Try.func5, Try.ntmps5
  go_wp2_with fail
  try rw [hN]
  refine (HN.out _).mono ?_
  rintro e w1 ⟨g, m, rfl, hB1, hg, hm, hb1⟩
  have HB1 := Lib.hid hb1; have HM1 := Lib.hid hB1; have HGM := Lib.hid (And.intro hg hm)
  clear hb1 hB1 hg hm hN
  go_wp2_with fail
  go_loopw [11] (fun vi wr => ∃ (i : Nat) (F : List StepD) (L : List SlotD) (T : List Int), i ≤ ln ∧ vi = .int .i64 i ∧ Hid (BkI N F L T i) ∧ Hid (∀ s ∈ L, (Lit.int .i64 s.id).wf = true) ∧ Hid (BookM wr g m N F L) ∧ Hid (Below w.heap.size w wr)) (fun vi _ => ln - (intOf vi).toNat)
  case atStart => exact ⟨0, _, _, [], Nat.zero_le _, rfl, Lib.hid (BkI.new HN1.out), Lib.hid (fun s hs => by cases hs), HM1, HB1⟩
  case round =>
    obtain ⟨i, F, L, T, hi, rfl, HI, HWF, HM, HB⟩ := hrel
    by_cases hlt : i < ln
    · obtain ⟨d, hd⟩ : ∃ d, l[i]? = some d := ⟨_, List.getElem?_eq_getElem (by rw [HLN.out]; exact hlt)⟩
      obtain ⟨b, off, eA, c0, c1, c2, c3, c4⟩ := (HD.out.below HB.out).cells i d hd
      subst eA
      have HDN := Lib.hid (done_any d (HD.out.wf d (List.mem_of_getElem? hd)) wr g m N F L T i HI.out (by omega) HWF.out HM.out)
      clear hd
      go_wp2_with fail
      refine HDN.out.mono ?_
      rintro e w2 ⟨A2, c2', ids', e0, F', L', rfl, hO, _, _, hB2, hW2⟩
      obtain ⟨T', hI'⟩ := hO.inv
      have HI' := Lib.hid hI'; have HWF' := Lib.hid hO.wf; have HM' := Lib.hid hB2
      have HB' := Lib.hid (HB.out.trans (hW2.below HB.out.size (fun b hb => by rcases hb with rfl | rfl; (exact HGM.out.1); (exact HGM.out.2))))
      clear hO hI' hB2 hW2
      go_wp2
      refine ⟨⟨i + 1, F', L', T', by omega, by go_num, HI', HWF', HM', HB'⟩, ?_⟩
      simp [intOf]; omega
    · obtain rfl : i = ln := by omega
      have hFl : F.length ≤ 200 := by have := HI.out.len; omega
      have hLl : L.length ≤ 100 := by have := HI.out.ll; omega
      have HSTF := Lib.hid fun (W : World) (g m : Nat) (hb : BookM W g m N F L) => steps_any W g m N F L HI.out.prof (by omega) hb
      have HSLF := Lib.hid fun (W : World) (g m : Nat) (hb : BookM W g m N F L) => slots_any W g m N F L HI.out.rise (by omega) hb
      have HSA := Lib.hid fun (A B : Option Addr) (x y : Nat) (W : World) (hs : Stp.Stp W A x F) (hs' : Stp.Stp W B y F) => rsame_any F F A B F.length F.length x y rfl rfl W hs hs'
      rw [show sameB F F = true from sameB_iff.2 rfl] at HSA
      have HLA := Lib.hid fun (A B : Option Addr) (x y : Nat) (W : World) (hs : Slt W A x L) (hs' : Slt W B y L) => sameL_any L L A B L.length L.length x y rfl rfl W hs hs'
      rw [show sameL L L = true from sameL_iff.2 rfl] at HLA
      have HCP := Lib.hid fun (W : World) (g m : Nat) (hb : BookM W g m N F L) => copy_any W g m N F L HI.out.prof (by omega) hb
      clear hFl hLl hlt
      go_wp2_with fail
      refine (HSTF.out _ _ _ HM.out).mono ?_
      rintro e w3 ⟨A3, c3, rfl, ho, hb⟩
      have HM_3 := Lib.hid (HM.out.below hb)
      have HB_3 := Lib.hid (blw HB.out hb)
      clear hb
      have HS_3 := Lib.hid (ho.stp.2)
      clear ho
      go_wp2_with fail
      refine (HSLF.out _ _ _ HM_3.out).mono ?_
      rintro e w4 ⟨A4, c4, rfl, ho, hb⟩
      have HM_4 := Lib.hid (HM_3.out.below hb)
      have HB_4 := Lib.hid (blw HB_3.out hb)
      have HS_4 := Lib.hid (HS_3.out.below hb)
      clear hb
      have HL_4 := Lib.hid (ho)
      clear ho
      have hsz := HB_4.out.size
      have hml := HM_4.out.lt
      go_wp2_with fail
      refine (HCP.out _ _ _ HM_4.out).mono ?_
      rintro e w5 ⟨gc, mc, rfl, hC, hg1, hm1, hb⟩
      have HGgc := Lib.hid (show w.heap.size ≤ gc ∧ w.heap.size ≤ mc from ⟨Nat.le_trans hsz hg1, Nat.le_trans hsz hm1⟩)
      have HAP := Lib.hid (show ¬ GB gc mc g ∧ ¬ GB gc mc m from ⟨by unfold GB; omega, by unfold GB; omega⟩)
      have HAM := Lib.hid (show ¬ GB g m gc ∧ ¬ GB g m mc from ⟨by unfold GB; omega, by unfold GB; omega⟩)
      have HM_5 := Lib.hid (HM_4.out.below hb)
      have HB_5 := Lib.hid (blw HB_4.out hb)
      have HS_5 := Lib.hid (HS_4.out.below hb)
      have HL_5 := Lib.hid (HL_4.out.below hb)
      clear hb
      have HP_5 := Lib.hid (hC)
      clear hC hg1 hm1 hsz hml
      go_wp2_with fail
      refine (HSTF.out _ _ _ HP_5.out).mono ?_
      rintro e w6 ⟨A6, c6, rfl, ho, hb⟩
      have HM_6 := Lib.hid (HM_5.out.below hb)
      have HB_6 := Lib.hid (blw HB_5.out hb)
      have HS_6 := Lib.hid (HS_5.out.below hb)
      have HL_6 := Lib.hid (HL_5.out.below hb)
      have HP_6 := Lib.hid (HP_5.out.below hb)
      clear hb
      have HX_6 := Lib.hid (ho.stp.2)
      clear ho
      go_wp2_with fail
      refine (HSA.out _ _ _ _ _ HX_6.out HS_6.out).mono ?_
      rintro e w7 ⟨rfl, hb⟩
      have HM_7 := Lib.hid (HM_6.out.below hb)
      have HB_7 := Lib.hid (blw HB_6.out hb)
      have HS_7 := Lib.hid (HS_6.out.below hb)
      have HL_7 := Lib.hid (HL_6.out.below hb)
      have HP_7 := Lib.hid (HP_6.out.below hb)
      have HX_7 := Lib.hid (HX_6.out.below hb)
      clear hb
      go_wp2_with fail
      refine (HSLF.out _ _ _ HP_7.out).mono ?_
      rintro e w8 ⟨A8, c8, rfl, ho, hb⟩
      have HM_8 := Lib.hid (HM_7.out.below hb)
      have HB_8 := Lib.hid (blw HB_7.out hb)
      have HS_8 := Lib.hid (HS_7.out.below hb)
      have HL_8 := Lib.hid (HL_7.out.below hb)
      have HP_8 := Lib.hid (HP_7.out.below hb)
      have HX_8 := Lib.hid (HX_7.out.below hb)
      clear hb
      have HY_8 := Lib.hid (ho)
      clear ho
      go_wp2_with fail
      refine (HLA.out _ _ _ _ _ HY_8.out HL_8.out).mono ?_
      rintro e w9 ⟨rfl, hb⟩
      have HM_9 := Lib.hid (HM_8.out.below hb)
      have HB_9 := Lib.hid (blw HB_8.out hb)
      have HS_9 := Lib.hid (HS_8.out.below hb)
      have HL_9 := Lib.hid (HL_8.out.below hb)
      have HP_9 := Lib.hid (HP_8.out.below hb)
      have HX_9 := Lib.hid (HX_8.out.below hb)
      have HY_9 := Lib.hid (HY_8.out.below hb)
      clear hb
      go_wp2_with fail
      go_loopw [15] (fun vi wr => ∃ (q : Nat) (Fc : List StepD) (Lc : List SlotD) (Tc : List Int), q ≤ lm ∧ vi = .int .i64 q ∧ Hid (BkI N Fc Lc Tc (i + q)) ∧ Hid (∀ s ∈ Lc, (Lit.int .i64 s.id).wf = true) ∧ Hid (BookM wr gc mc N Fc Lc) ∧ Hid (BookM wr g m N F L) ∧ Hid (Stp.Stp wr A3 c3 F) ∧ Hid (Slt wr A4 c4 L) ∧ Hid (Below w.heap.size w wr)) (fun vi _ => lm - (intOf vi).toNat)
      case atStart => exact ⟨0, F, L, T, Nat.zero_le _, rfl, HI, HWF, HP_9, HM_9, HS_9, HL_9, HB_9⟩
      case round =>
        obtain ⟨q, Fc, Lc, Tc, hq, rfl, HIc, HWFc, HP, HM, HS, HL, HB⟩ := hrel
        by_cases hql : q < lm
        · obtain ⟨d, hd⟩ : ∃ d, mo[q]? = some d := ⟨_, List.getElem?_eq_getElem (by rw [HLM.out]; exact hql)⟩
          obtain ⟨b, off, eA, x0, x1, x2, x3, x4⟩ := (HD2.out.below HB.out).cells q d hd
          subst eA
          have HDN := Lib.hid (done_any d (HD2.out.wf d (List.mem_of_getElem? hd)) wr gc mc N Fc Lc Tc (i + q) HIc.out (by omega) HWFc.out HP.out)
          clear hd
          go_wp2_with fail
          refine HDN.out.mono ?_
          rintro e w2 ⟨A2, c2', ids', e0, F', L', rfl, hO, _, _, hB, hW⟩
          obtain ⟨T', hI'⟩ := hO.inv
          have HI' := Lib.hid hI'; have HWF' := Lib.hid hO.wf; have HP' := Lib.hid hB
          have HM' := Lib.hid (HM.out.other HP.out hW HAP.out.1 HAP.out.2)
          have HS' := Lib.hid (HS.out.wr HP.out hW); have HL' := Lib.hid (HL.out.wr HP.out hW)
          have HB' := Lib.hid (HB.out.trans (hW.below HB.out.size (fun b hb => by rcases hb with rfl | rfl; (exact HGgc.out.1); (exact HGgc.out.2))))
          clear hO hI' hB hW
          go_wp2
          refine ⟨⟨q + 1, F', L', T', by omega, by go_num, HI', HWF', HP', HM', HS', HL', HB'⟩, ?_⟩
          simp [intOf]; omega
        · obtain rfl : q = lm := by omega
          clear hql
          go_wp2_with fail
          refine (HSTF.out _ _ _ HM.out).mono ?_
          rintro e w51 ⟨A51, c51, rfl, ho, hb⟩
          have HM_51 := Lib.hid (HM.out.below hb)
          have HS_51 := Lib.hid (HS.out.below hb)
          have HL_51 := Lib.hid (HL.out.below hb)
          have HB_51 := Lib.hid (blw HB.out hb)
          clear hb
          have HX_51 := Lib.hid (ho.stp.2)
          clear ho
          go_wp2_with fail
          refine (HSA.out _ _ _ _ _ HX_51.out HS_51.out).mono ?_
          rintro e w52 ⟨rfl, hb⟩
          have HM_52 := Lib.hid (HM_51.out.below hb)
          have HS_52 := Lib.hid (HS_51.out.below hb)
          have HL_52 := Lib.hid (HL_51.out.below hb)
          have HB_52 := Lib.hid (blw HB_51.out hb)
          have HX_52 := Lib.hid (HX_51.out.below hb)
          clear hb
          go_wp2_with fail
          refine (HSLF.out _ _ _ HM_52.out).mono ?_
          rintro e w53 ⟨A53, c53, rfl, ho, hb⟩
          have HM_53 := Lib.hid (HM_52.out.below hb)
          have HS_53 := Lib.hid (HS_52.out.below hb)
          have HL_53 := Lib.hid (HL_52.out.below hb)
          have HB_53 := Lib.hid (blw HB_52.out hb)
          have HX_53 := Lib.hid (HX_52.out.below hb)
          clear hb
          have HY_53 := Lib.hid (ho)
          clear ho
          go_wp2_with fail
          refine (HLA.out _ _ _ _ _ HY_53.out HL_53.out).mono ?_
          rintro e w54 ⟨rfl, hb⟩
          have HM_54 := Lib.hid (HM_53.out.below hb)
          have HS_54 := Lib.hid (HS_53.out.below hb)
          have HL_54 := Lib.hid (HL_53.out.below hb)
          have HB_54 := Lib.hid (blw HB_53.out hb)
          have HX_54 := Lib.hid (HX_53.out.below hb)
          have HY_54 := Lib.hid (HY_53.out.below hb)
          clear hb
          have hsz := HB_54.out.size
          have hml := HM_54.out.lt
          go_wp2_with fail
          refine (HCP.out _ _ _ HM_54.out).mono ?_
          rintro e w55 ⟨gd, md, rfl, hC, hg1, hm1, hb⟩
          have HGgd := Lib.hid (show w.heap.size ≤ gd ∧ w.heap.size ≤ md from ⟨Nat.le_trans hsz hg1, Nat.le_trans hsz hm1⟩)
          have HAP := Lib.hid (show ¬ GB gd md g ∧ ¬ GB gd md m from ⟨by unfold GB; omega, by unfold GB; omega⟩)
          have HAM := Lib.hid (show ¬ GB g m gd ∧ ¬ GB g m md from ⟨by unfold GB; omega, by unfold GB; omega⟩)
          have HM_55 := Lib.hid (HM_54.out.below hb)
          have HL_55 := Lib.hid (HL_54.out.below hb)
          have HB_55 := Lib.hid (blw HB_54.out hb)
          clear hb
          have HP_55 := Lib.hid (hC)
          clear hC hg1 hm1 hsz hml
          have HFA := Lib.hid (free_any ids w55 g m N F L T i HI.out (by omega) HWF.out HID.out.wf (by rw [HLI.out]; omega) C cc (fun a x hx => by
            obtain ⟨b, off, e, hc⟩ := HID.out.its.cells a x hx
            refine ⟨b, off, e, kp HB_55.out hc, ?_⟩
            have hbl : b < w.heap.size := World.block_lt_of_cell? w _ hc
            have h1 := HGM.out
            rintro (z | z) <;> omega) HM_55.out)
          rw [HLI.out] at HFA
          go_wp2_with fail
          refine HFA.out.mono ?_
          rintro e w56 ⟨e9, F9, M9, rfl, hfo, hB, hW⟩
          rcases hfo with ⟨q1, rfl, rfl, rfl⟩ | ⟨G9, q1, rfl, q3, q4, q5⟩
          · clear q1
            have HM_56 := Lib.hid hB
            have HL_56 := Lib.hid (HL_55.out.wr HM_55.out hW)
            have HB_56 := Lib.hid (HB_55.out.trans (hW.below HB_55.out.size (fun b hb => by rcases hb with rfl | rfl; (exact HGM.out.1); (exact HGM.out.2))))
            have HP_56 := Lib.hid (HP_55.out.other HM_55.out hW HAM.out.1 HAM.out.2)
            clear hB hW
            go_wp2_with fail
            refine (HSLF.out _ _ _ HM_56.out).mono ?_
            rintro e w57 ⟨A57, c57, rfl, ho, hb⟩
            have HM_57 := Lib.hid (HM_56.out.below hb)
            have HL_57 := Lib.hid (HL_56.out.below hb)
            have HB_57 := Lib.hid (blw HB_56.out hb)
            have HP_57 := Lib.hid (HP_56.out.below hb)
            clear hb
            have HY_57 := Lib.hid (ho)
            clear ho
            go_wp2_with fail
            refine (HLA.out _ _ _ _ _ HY_57.out HL_57.out).mono ?_
            rintro e w58 ⟨rfl, hb⟩
            have HM_58 := Lib.hid (HM_57.out.below hb)
            have HL_58 := Lib.hid (HL_57.out.below hb)
            have HB_58 := Lib.hid (blw HB_57.out hb)
            have HP_58 := Lib.hid (HP_57.out.below hb)
            have HY_58 := Lib.hid (HY_57.out.below hb)
            clear hb
            go_wp2_with fail
            refine (HK.out _).mono ?_
            rintro e w' ⟨rfl, hw⟩
            have HWX := Lib.hid (blw HB_58.out hw)
            clear hw
            go_wp2
            go_ret
            exact ⟨rfl, HWX.out⟩
          · have HFR := Lib.hid q1; have HF := Lib.hid q3; have HP9 := Lib.hid q4; have HV9 := Lib.hid q5
            clear q1 q3 q4 q5
            have HM_56 := Lib.hid hB
            have HL_56 := Lib.hid (HL_55.out.wr HM_55.out hW)
            have HB_56 := Lib.hid (HB_55.out.trans (hW.below HB_55.out.size (fun b hb => by rcases hb with rfl | rfl; (exact HGM.out.1); (exact HGM.out.2))))
            have HP_56 := Lib.hid (HP_55.out.other HM_55.out hW HAM.out.1 HAM.out.2)
            clear hB hW
            go_wp2_with fail
            go_loopw [18] (fun vi wr => ∃ (q : Nat) (Fd : List StepD) (Md Gd : List SlotD), q ≤ li ∧ vi = .int .i64 q ∧ Hid (freeR (ids.take q) L = some Md) ∧ Hid (FreeI L Md Gd) ∧ Hid (Prof Fd) ∧ Hid (∀ t, 0 ≤ t → valF 0 Fd t = valF 0 F t + takV Gd t) ∧ Hid (BookM wr gd md N Fd Md) ∧ Hid (BookM wr g m N F9 M9) ∧ Hid (Below w.heap.size w wr)) (fun vi _ => li - (intOf vi).toNat)
            case atStart => exact ⟨0, F, L, [], Nat.zero_le _, rfl, Lib.hid rfl, Lib.hid (FreeI.mk0 HI.out.rise), Lib.hid HI.out.prof, Lib.hid (fun t ht => by simp [takV]), HP_56, HM_56, HB_56⟩
            case round =>
              obtain ⟨p, Fd, Md, Gd, hp, rfl, HFq, HFd, HPd, HVd, HP, HM, HB⟩ := hrel
              by_cases hpl : p < li
              · obtain ⟨x, hx⟩ : ∃ x, ids[p]? = some x := ⟨_, List.getElem?_eq_getElem (by rw [HLI.out]; exact hpl)⟩
                obtain ⟨b, off, eA, y0⟩ := (HID.out.its.below HB.out).cells p x hx
                subst eA
                have HX := Lib.hid hx
                have hId := HI.out.some HFd.out HPd.out HVd.out
                have hxw := HID.out.wf x (List.mem_of_getElem? hx)
                have HFF := Lib.hid fun (W : World) (hb : BookM W gd md N Fd Md) (A : Option Addr) (d : Nat) hA => free_any [x] W gd md N Fd Md T i hId (by omega) (fun u hu => HWF.out u (HFd.out.memM hu)) (fun z hz => by simp at hz; subst hz; exact hxw) (by simp) A d hA hb
                clear hx hId hxw
                go_wp2_with fail
                have HA := Lib.hid (al wr (.cells #[.int .i64 x] 3))
                refine (HFF.out _ (HP.out.below HA.out) _ _ ?hA).mono ?_
                case hA =>
                  intro a z hz
                  obtain ⟨b, off, e, hc⟩ := (its_one wr x 3).cells a z hz
                  refine ⟨b, off, e, hc, ?_⟩
                  injection e with e
                  injection e with e
                  subst e
                  have := HP.out.lt
                  rintro (e | e) <;> omega
                rintro e w2 ⟨e8, F8, M8, rfl, hfo, hB, hW⟩
                obtain ⟨rfl, f1, f2, G2, f3, f4⟩ := free_more HFR.out HX.out HFq.out HFd.out HVd.out hfo
                have HFq' := Lib.hid f1; have HPd' := Lib.hid f2; have HFd' := Lib.hid f3; have HVd' := Lib.hid f4; have HP' := Lib.hid hB
                have HM' := Lib.hid ((HM.out.below HA.out).other (HP.out.below HA.out) hW HAP.out.1 HAP.out.2)
                have HB' := Lib.hid ((blw HB.out HA.out).trans (hW.below (blw HB.out HA.out).size (fun b hb => by rcases hb with rfl | rfl; (exact HGgd.out.1); (exact HGgd.out.2))))
                clear f1 f2 f3 f4 hfo hB hW
                go_wp2
                refine ⟨⟨p + 1, F8, M8, G2, by omega, by go_num, HFq', HFd', HPd', HVd', HP', HM', HB'⟩, ?_⟩
                simp [intOf]; omega
              · obtain rfl : p = li := by omega
                have hfq := HFq.out
                rw [List.take_of_length_le (by rw [HLI.out]; exact Nat.le_refl _), HFR.out] at hfq
                injection hfq with hfq
                subst hfq
                have hfe := free_same HP9.out HPd.out HF.out HFd.out HV9.out HVd.out
                subst hfe
                have hId := HI.out.some HF.out HP9.out HV9.out
                have HST9 := Lib.hid fun (W : World) (g m : Nat) (hb : BookM W g m N F9 M9) => steps_any W g m N F9 M9 HP9.out (by have := hId.len; omega) hb
                have HSL9 := Lib.hid fun (W : World) (g m : Nat) (hb : BookM W g m N F9 M9) => slots_any W g m N F9 M9 HF.out.rise (by have := hId.ll; omega) hb
                have HSA9 := Lib.hid fun (A B : Option Addr) (x y : Nat) (W : World) (hs : Stp.Stp W A x F9) (hs' : Stp.Stp W B y F9) => rsame_any F9 F9 A B F9.length F9.length x y rfl rfl W hs hs'
                rw [show sameB F9 F9 = true from sameB_iff.2 rfl] at HSA9
                have HLA9 := Lib.hid fun (A B : Option Addr) (x y : Nat) (W : World) (hs : Slt W A x M9) (hs' : Slt W B y M9) => sameL_any M9 M9 A B M9.length M9.length x y rfl rfl W hs hs'
                rw [show sameL M9 M9 = true from sameL_iff.2 rfl] at HLA9
                clear hId hpl
                go_wp2_with fail
                refine (HST9.out _ _ _ HM.out).mono ?_
                rintro e w81 ⟨A81, c81, rfl, ho, hb⟩
                have HM_81 := Lib.hid (HM.out.below hb)
                have HP_81 := Lib.hid (HP.out.below hb)
                have HB_81 := Lib.hid (blw HB.out hb)
                clear hb
                have HX_81 := Lib.hid (ho.stp.2)
                clear ho
                go_wp2_with fail
                refine (HST9.out _ _ _ HP_81.out).mono ?_
                rintro e w82 ⟨A82, c82, rfl, ho, hb⟩
                have HM_82 := Lib.hid (HM_81.out.below hb)
                have HP_82 := Lib.hid (HP_81.out.below hb)
                have HB_82 := Lib.hid (blw HB_81.out hb)
                have HX_82 := Lib.hid (HX_81.out.below hb)
                clear hb
                have HZ_82 := Lib.hid (ho.stp.2)
                clear ho
                go_wp2_with fail
                refine (HSA9.out _ _ _ _ _ HX_82.out HZ_82.out).mono ?_
                rintro e w83 ⟨rfl, hb⟩
                have HM_83 := Lib.hid (HM_82.out.below hb)
                have HP_83 := Lib.hid (HP_82.out.below hb)
                have HB_83 := Lib.hid (blw HB_82.out hb)
                have HX_83 := Lib.hid (HX_82.out.below hb)
                have HZ_83 := Lib.hid (HZ_82.out.below hb)
                clear hb
                go_wp2_with fail
                refine (HSL9.out _ _ _ HM_83.out).mono ?_
                rintro e w84 ⟨A84, c84, rfl, ho, hb⟩
                have HM_84 := Lib.hid (HM_83.out.below hb)
                have HP_84 := Lib.hid (HP_83.out.below hb)
                have HB_84 := Lib.hid (blw HB_83.out hb)
                clear hb
                have HY_84 := Lib.hid (ho)
                clear ho
                go_wp2_with fail
                refine (HSL9.out _ _ _ HP_84.out).mono ?_
                rintro e w85 ⟨A85, c85, rfl, ho, hb⟩
                have HM_85 := Lib.hid (HM_84.out.below hb)
                have HP_85 := Lib.hid (HP_84.out.below hb)
                have HB_85 := Lib.hid (blw HB_84.out hb)
                have HY_85 := Lib.hid (HY_84.out.below hb)
                clear hb
                have HV_85 := Lib.hid (ho)
                clear ho
                go_wp2_with fail
                refine (HLA9.out _ _ _ _ _ HY_85.out HV_85.out).mono ?_
                rintro e w86 ⟨rfl, hb⟩
                have HM_86 := Lib.hid (HM_85.out.below hb)
                have HP_86 := Lib.hid (HP_85.out.below hb)
                have HB_86 := Lib.hid (blw HB_85.out hb)
                have HY_86 := Lib.hid (HY_85.out.below hb)
                have HV_86 := Lib.hid (HV_85.out.below hb)
                clear hb
                go_wp2_with fail
                refine (HK.out _).mono ?_
                rintro e w' ⟨rfl, hw⟩
                have HWX := Lib.hid (blw HB_86.out hw)
                clear hw
                go_wp2
                go_ret
                exact ⟨rfl, HWX.out⟩

namespace bookCopies
open Go.ChangeShapes Go.WideShapes Go.ChangeAt Go.RowKit
theorem own : ownKnob Try.prog.godebug = none := by kernel_rfl
theorem laidOut : laidOutB Try.prog = true := by kernel_rfl

set_option maxRecDepth 100000 in
theorem lifted (os : Os) (started : os.Started) (H : Type) (enc : TypeId × Value → H) :
    ReturnsInHanded {} Try.checked os 5 .any (Rows.bookCopiesSpec.pre6 enc Try.prog Try.f5 Rows.bookCopiesRow.domain false) (Rows.bookCopiesSpec.post enc Try.prog Try.f5 false true false false) := by
  refine returnsInHanded_of_change (C := Try.checked) own started (by kernel_rfl) Try.func5
    (ChangeSpec.witness6 (enc := enc) (C := Try.checked) false ⟨#[], #[.int .u8 0, .slice none 0 0, .slice none 0 0, .slice none 0 0], []⟩ 8 (by kernel_rfl) (by kernel_rfl) (by kernel_rfl) (by kernel_rfl)) ?_
  intro W base args ds gs before hval0 hW hcnd _
  have hval : ∀ (j : Nat) t v, Try.f5.params[j]? = some t → args[j]? = some v → Value.okWide Try.prog W .any base t v := hval0
  have hW' := hW
  obtain ⟨p, q, hA0, hV, rfl, hfz, hnd⟩ := hW
  have hA : DataW.TrodAll enc Try.prog W 0 (fun _ => true) true Try.f5.params.toList args.toList ds p := hA0
  rw [Try.params5] at hA hval
  obtain ⟨v0, vs0, d0, ds0, p0, q0, hargs, rfl, rfl, h0, r0⟩ := trodAll_cons hA
  obtain ⟨v1, vs1, d1, ds1, p1, q1, rfl, rfl, rfl, h1, r1⟩ := trodAll_cons r0
  obtain ⟨v2, vs2, d2, ds2, p2, q2, rfl, rfl, rfl, h2, r2⟩ := trodAll_cons r1
  obtain ⟨v3, vs3, d3, ds3, p3, q3, rfl, rfl, rfl, h3, r3⟩ := trodAll_cons r2
  obtain ⟨rfl, rfl, rfl⟩ := trodAll_nil r3
  obtain rfl : args = #[v0, v1, v2, v3] := by cases args; simp_all
  obtain ⟨rfl, rfl⟩ := trodVars_none hV
  obtain ⟨a0, rfl, rfl, rfl, w0⟩ := open_int Try.underlying5 (hval 0 5 v0 rfl rfl) h0
  have k1 := h1
  have lt1 : ∀ x ∈ p1, x.block < W.heap.size := by obtain ⟨m, hm⟩ := k1; exact DataW.trod_lt m _ _ _ hm
  obtain ⟨A1, l1, c1, e1⟩ := okWide_slice Try.underlying22 (hval 1 22 v1 rfl rfl)
  obtain ⟨fuel1, hf1⟩ := h1
  rw [show v1.cells.toList = [v1] from by rw [e1]; rfl] at hf1
  clear e1 A1 l1 c1
  obtain ⟨A1, c1, z1, rfl, w1⟩ := Bk.dos_arg hf1
  have k2 := h2
  have lt2 : ∀ x ∈ p2, x.block < W.heap.size := by obtain ⟨m, hm⟩ := k2; exact DataW.trod_lt m _ _ _ hm
  obtain ⟨A2, l2, c2, e2⟩ := okWide_slice Try.underlying22 (hval 2 22 v2 rfl rfl)
  obtain ⟨fuel2, hf2⟩ := h2
  rw [show v2.cells.toList = [v2] from by rw [e2]; rfl] at hf2
  clear e2 A2 l2 c2
  obtain ⟨A2, c2, z2, rfl, w2⟩ := Bk.dos_arg hf2
  have k3 := h3
  have lt3 : ∀ x ∈ p3, x.block < W.heap.size := by obtain ⟨m, hm⟩ := k3; exact DataW.trod_lt m _ _ _ hm
  obtain ⟨A3, l3, c3, e3⟩ := okWide_slice Try.underlying28 (hval 3 28 v3 rfl rfl)
  obtain ⟨fuel3, hf3⟩ := h3
  rw [show v3.cells.toList = [v3] from by rw [e3]; rfl] at hf3
  clear e3 A3 l3 c3
  obtain ⟨A3, c3, z3, rfl, w3⟩ := Bk.ids_arg hf3
  clear hA0 hval0
  refine (walk_BookCopies W a0 w0 A1 c1 z1 w1 A2 c2 z2 w2 A3 c3 z3 w3).mono fun e W' ⟨he, bel⟩ => ?_
  subst he
  exact ⟨_, rfl, _, _, _, [], _, [], hW', trodAll_mk1 (shut_bool Try.underlying4 _), (trodAll_cons_mk (shut_int Try.underlying5 w0) (trodAll_cons_mk (Below.trod laidOut (by kernel_rfl) (of_decide_eq_true (by kernel_rfl)) k1 bel lt1) (trodAll_cons_mk (Below.trod laidOut (by kernel_rfl) (of_decide_eq_true (by kernel_rfl)) k2 bel lt2) (trodAll_cons_mk (Below.trod laidOut (by kernel_rfl) (of_decide_eq_true (by kernel_rfl)) k3 bel lt3) trodAll_mk0)))), rfl, bel.frame _, fun h => by cases h⟩

theorem over : Rows.bookCopiesRow.holds Try.pinned (OpenSpec.ofChange Rows.bookCopiesSpec) :=
  OpenClaim.holds_of_wide 5 Try.f5 rfl rfl rfl rfl rfl rfl rfl ⟨rfl, rfl, rfl, rfl, rfl⟩ rfl rfl rfl rfl rfl (by kernel_rfl) Try.func5 (by kernel_rfl)
    (of_decide_eq_true (by kernel_rfl)) (by unfold Func.isWrapper; first | (rw [if_pos (by decide +kernel)]; kernel_rfl) | (rw [if_neg (by decide +kernel)]; exact ⟨rfl, rfl⟩))
    (fun os started H enc _ => lifted os started H enc)

theorem proved : Rows.BookCopiesSaid := over
#print axioms proved
end bookCopies
end Go.Proofs.Ytapojmniokdjfaa

