/- BookBack: for any numbers, any list of things that are done and any reservation, the law returns true, and all read afterwards as before. No condition. -/
import Derived.Test.YtapojmniokdjfaaRows
import Derived.Test.YtapojmniokdjfaaBkBackP
import Derived.WalkKit
import Derived.ProofKit
import Derived.OpenShut
import Derived.ShutString
import Derived.ChangeOld
import Derived.Below
namespace Go.Proofs.Ytapojmniokdjfaa
open Go.ChangeShapes Go.WideShapes Go.ChangeAt Go.RowKit
open Stp (blw al dr drN kp Stp.below RetP at_any rsame_any sameB sameB_iff inW)
open Bk
set_option linter.unusedVariables false
theorem below_wr {w w1 w2 : World} {g m : Nat} (hb : Below w.heap.size w w1) (hw : Wr (GB g m) w1 w2) (hg : w.heap.size ≤ g) (hm : w.heap.size ≤ m) : Below w.heap.size w w2 := hb.trans (hw.below hb.size (by rintro b (rfl | rfl) <;> assumption))
theorem get_none {L : List SlotD} {id : Int} (h : fndS id L = none) : getV L id = .tuple #[.agg #[.int .i64 0, .int .i64 0, .int .i64 0, .int .i64 0], .bool false] := by unfold getV; rw [h]
theorem get_some {L : List SlotD} {id : Int} {s : SlotD} (h : fndS id L = some s) : getV L id = .tuple #[.agg #[.int .i64 s.id, .int .i64 s.fm, .int .i64 s.to, .int .i64 s.nd], .bool true] := by unfold getV; rw [h]

set_option maxRecDepth 100000 in
set_option maxHeartbeats 12800000 in
theorem walk_BookBack (w : World) (n : Int) (wn : (Lit.int .u8 n).wf = true) (A : Option Addr) (c : Nat) (l : List DoD) (h : Dos w A c l) (s : SlotD) (ws : (Lit.int .i64 s.id).wf = true) (to : Int) :
    Calls Try.prog 4 #[.int .u8 n, .slice A l.length c, .agg #[.int .i64 s.id, .int .i64 s.fm, .int .i64 s.to, .int .i64 s.nd], .int .i64 to] w fun e w' => e = .returned (.bool true) ∧ Below w.heap.size w w' := by
  have HK := Lib.hid known_any
  have hnb := u8b wn
  obtain ⟨ln, hln⟩ : ∃ ln, l.length = ln := ⟨_, rfl⟩
  have hlm : ln ≤ 9223372036854775807 := by rw [← hln]; exact Nat.le_trans h.cap (by have := h.top; simpa [maxLen] using this)
  rw [hln]
  clear wn
  have HX0 := Lib.hid (al w (.cells #[.int .i64 s.id, .int .i64 s.fm, .int .i64 s.to, .int .i64 s.nd] 32))
  have HC0 := Lib.hid (C4.new w s 32)
  by_cases h1 : 40 < ln
  · clear h hln
    go_enter Try.func4, Try.ntmps4
    go_wp2_with fail
    refine (HK.out _).mono ?_
    rintro e w' ⟨rfl, hw⟩
    go_wp2
    go_ret
    exact ⟨rfl, blw HX0.out hw⟩
  have hl40 : ln ≤ 40 := by omega
  obtain ⟨N, hN⟩ : ∃ N, 1 + n = N := ⟨_, rfl⟩
  have HN1 : Hid (1 ≤ N ∧ N ≤ 10000) := Lib.hid (by omega)
  have HN := Lib.hid fun (W : World) => newb_yes N HN1.out W
  have HD := Lib.hid h
  have HLN := Lib.hid hln
  clear h hln
  go_enter Try.func4, Try.ntmps4
  go_wp2_with fail
  try rw [hN]
  refine (HN.out _).mono ?_
  rintro e w1 ⟨g, m, rfl, hB1, hg, hm, hb1⟩
  have hz0 := HX0.out.size
  have HB1 := Lib.hid (blw HX0.out hb1); have HM1 := Lib.hid hB1; have HGM := Lib.hid (And.intro (Nat.le_trans hz0 hg) (Nat.le_trans hz0 hm)); have HC1 := Lib.hid (HC0.out.below hb1)
  clear hb1 hB1 hg hm hN hz0
  obtain ⟨tb, htb⟩ : ∃ tb, w.heap.size = tb := ⟨_, rfl⟩
  have HTB := Lib.hid htb
  rw [htb] at HC1 ⊢
  clear htb
  go_wp2_with fail
  go_loopw [11] (fun vi wr => ∃ (i : Nat) (F : List StepD) (L : List SlotD) (T : List Int), i ≤ ln ∧ vi = .int .i64 i ∧ Hid (BkI N F L T i) ∧ Hid (∀ s ∈ L, (Lit.int .i64 s.id).wf = true) ∧ Hid (BookM wr g m N F L) ∧ Hid (Wr (GB g m) w1 wr)) (fun vi _ => ln - (intOf vi).toNat)
  case atStart => exact ⟨0, _, _, [], Nat.zero_le _, rfl, Lib.hid (BkI.new HN1.out), Lib.hid (fun s hs => by cases hs), HM1, Lib.hid (Wr.refl _ _)⟩
  case round =>
    obtain ⟨i, F, L, T, hi, rfl, HI, HWF, HM, HW⟩ := hrel
    by_cases hlt : i < ln
    · obtain ⟨d, hd⟩ : ∃ d, l[i]? = some d := ⟨_, List.getElem?_eq_getElem (by rw [HLN.out]; exact hlt)⟩
      obtain ⟨b, off, eA, c0, c1, c2, c3, c4⟩ := (HD.out.below (below_wr HB1.out HW.out HGM.out.1 HGM.out.2)).cells i d hd
      subst eA
      have HDN := Lib.hid (done_any d (HD.out.wf d (List.mem_of_getElem? hd)) wr g m N F L T i HI.out (by omega) HWF.out HM.out)
      clear hd
      go_wp2_with fail
      refine HDN.out.mono ?_
      rintro e w2 ⟨A2, c2', ids, e0, F', L', rfl, hO, _, _, hB2, hW2⟩
      obtain ⟨T', hI'⟩ := hO.inv
      have HI' := Lib.hid hI'; have HWF' := Lib.hid hO.wf; have HM' := Lib.hid hB2; have HW' := Lib.hid (HW.out.trans hW2)
      clear hO hI' hB2 hW2
      go_wp2
      refine ⟨⟨i + 1, F', L', T', by omega, by go_num, HI', HWF', HM', HW'⟩, ?_⟩
      simp [intOf]; omega
    · obtain rfl : i = ln := by omega
      have HC := Lib.hid (HC1.out.wr HM1.out HW.out)
      have HSTF := Lib.hid fun (W : World) (hb : BookM W g m N F L) => steps_any W g m N F L HI.out.prof (by have := HI.out.len; omega) hb
      have HSLF := Lib.hid fun (W : World) (hb : BookM W g m N F L) => slots_any W g m N F L HI.out.rise (by have := HI.out.ll; omega) hb
      have HSA := Lib.hid fun (A B : Option Addr) (x y : Nat) (W : World) (hs : Stp.Stp W A x F) (hs' : Stp.Stp W B y F) => rsame_any F F A B F.length F.length x y rfl rfl W hs hs'
      rw [show sameB F F = true from sameB_iff.2 rfl] at HSA
      have HLA := Lib.hid fun (A B : Option Addr) (x y : Nat) (W : World) (hs : Slt W A x L) (hs' : Slt W B y L) => sameL_any L L A B L.length L.length x y rfl rfl W hs hs'
      rw [show sameL L L = true from sameL_iff.2 rfl] at HLA
      have HTK := Lib.hid fun (W : World) (hb : BookM W g m N F L) => take_any s ws W g m N F L T i HI.out (by omega) hb
      unfold RetT at HTK
      clear hlt HD
      obtain ⟨k0, k1, k2, k3⟩ := HC.out
      rw [Nat.zero_add] at k1 k2 k3
      go_wp2_with fail
      refine (HSTF.out _ HM.out).mono ?_
      rintro e w3 ⟨A3, c3, rfl, ho, hb⟩
      have HC_3 := Lib.hid (HC.out.below hb)
      have HM_3 := Lib.hid (HM.out.below hb); have HW_3 := Lib.hid (HW.out.trans (Wr.of_below (S := GB g m) hb))
      have HS_3 := Lib.hid (ho.stp.2)
      clear hb
      clear k0 k1 k2 k3
      clear ho
      obtain ⟨k0, k1, k2, k3⟩ := HC_3.out
      rw [Nat.zero_add] at k1 k2 k3
      go_wp2_with fail
      refine (HSLF.out _ HM_3.out).mono ?_
      rintro e w4 ⟨A4, c4, rfl, ho, hb⟩
      have HC_4 := Lib.hid (HC_3.out.below hb)
      have HS_4 := Lib.hid (HS_3.out.below hb)
      have HM_4 := Lib.hid (HM_3.out.below hb); have HW_4 := Lib.hid (HW_3.out.trans (Wr.of_below (S := GB g m) hb))
      have HL_4 := Lib.hid (ho)
      clear hb
      clear k0 k1 k2 k3
      clear ho
      obtain ⟨e0, he⟩ : ∃ e0, takeE N F L s = e0 := ⟨_, rfl⟩
      by_cases hne : takeE N F L s = 0
      · have he := hne
        clear hne
        have hy := takeE_iff.1 he
        have hI1 := HI.out.take (by omega) hy
        have hv1 := (Stp.add_yes hy.add (by have := HI.out.len; omega)).val
        have hF1 : takeF N F L s = Stp.addL F s.fm s.to (-s.nd) := by unfold takeF; rw [if_pos he]
        have hL1 : takeL N F L s = insS s L := by unfold takeL; rw [if_pos he]
        have hs0 : 0 < s.id := by have := hy.ok.id; omega
        have hwf1 : ∀ u ∈ insS s L, (Lit.int .i64 u.id).wf = true := fun u hu => by
          rcases mem_ins.1 hu with rfl | hu
          · exact ws
          · exact HWF.out u hu
        obtain ⟨F1, hF⟩ : ∃ F1, Stp.addL F s.fm s.to (-s.nd) = F1 := ⟨_, rfl⟩
        rw [hF] at hI1 hv1 hF1
        rw [he, hF1, hL1] at HTK
        have hn := hy.new
        have hfs : fndS s.id (insS s L) = some s := by rw [fnd_ins HI.out.rise hs0 hn, if_pos rfl]
        have HNF := Lib.hid hn; have HI1 := Lib.hid hI1; have HV1 := Lib.hid hv1; have HS0 := Lib.hid hs0; have HWF1 := Lib.hid hwf1; have HFS := Lib.hid hfs
        have HST1 := Lib.hid fun (W : World) (hb : BookM W g m N F1 (insS s L)) => steps_any W g m N F1 (insS s L) hI1.prof (by have := hI1.len; omega) hb
        have HSA1 := Lib.hid fun (A B : Option Addr) (x y : Nat) (W : World) (hs : Stp.Stp W A x F1) (hs' : Stp.Stp W B y F1) => rsame_any F1 F1 A B F1.length F1.length x y rfl rfl W hs hs'
        rw [show sameB F1 F1 = true from sameB_iff.2 rfl] at HSA1
        have HMV := Lib.hid fun (W : World) (hb : BookM W g m N F1 (insS s L)) => move_any s.id s.fm ws W g m N F1 (insS s L) _ (i + 1) hI1 (by omega) hb
        have HCU := Lib.hid fun (W : World) (hb : BookM W g m N F1 (insS s L)) => cut_any s.id to ws W g m N F1 (insS s L) _ (i + 1) hI1 (by omega) hwf1 hb
        have HFF := Lib.hid fun (W : World) (hb : BookM W g m N F L) (A : Option Addr) (d : Nat) hA => free_any [s.id] W g m N F L T i HI.out (by omega) HWF.out (fun x hx => by simp at hx; subst hx; exact ws) (by simp) A d hA hb
        have HGN := Lib.hid fun (W : World) (hb : BookM W g m N F L) => get_any s.id ws W g m N F L hb
        rw [get_none hn] at HGN
        clear hy hI1 hv1 hF1 hL1 hs0 hwf1 hF hn hfs he
        obtain ⟨k0, k1, k2, k3⟩ := HC_4.out
        rw [Nat.zero_add] at k1 k2 k3
        go_wp2_with fail
        refine (HTK.out _ HM_4.out).mono ?_
        rintro e w5 ⟨rfl, hB, hW⟩
        have HC_5 := Lib.hid (HC_4.out.wr HM_4.out hW)
        have HS_5 := Lib.hid (HS_4.out.wr HM_4.out hW)
        have HL_5 := Lib.hid (HL_4.out.wr HM_4.out hW)
        have HM_5 := Lib.hid hB; have HW_5 := Lib.hid (HW_4.out.trans hW)
        clear hB hW
        clear k0 k1 k2 k3
        obtain ⟨k0, k1, k2, k3⟩ := HC_5.out
        rw [Nat.zero_add] at k1 k2 k3
        go_wp2_with fail
        refine (HST1.out _ HM_5.out).mono ?_
        rintro e w6 ⟨A6, c6, rfl, ho, hb⟩
        have HC_6 := Lib.hid (HC_5.out.below hb)
        have HS_6 := Lib.hid (HS_5.out.below hb)
        have HL_6 := Lib.hid (HL_5.out.below hb)
        have HM_6 := Lib.hid (HM_5.out.below hb); have HW_6 := Lib.hid (HW_5.out.trans (Wr.of_below (S := GB g m) hb))
        have HN_6 := Lib.hid (ho.stp.2)
        clear hb
        clear k0 k1 k2 k3
        clear ho
        obtain ⟨k0, k1, k2, k3⟩ := HC_6.out
        rw [Nat.zero_add] at k1 k2 k3
        go_wp2_with fail
        refine (HMV.out _ HM_6.out).mono ?_
        rintro e w7 ⟨e1, F2, L2, rfl, hmo, hB, hW⟩
        obtain ⟨rfl, rfl, rfl⟩ := move_back HI1.out HFS.out hmo
        clear hmo
        have HC_7 := Lib.hid (HC_6.out.wr HM_6.out hW)
        have HS_7 := Lib.hid (HS_6.out.wr HM_6.out hW)
        have HL_7 := Lib.hid (HL_6.out.wr HM_6.out hW)
        have HN_7 := Lib.hid (HN_6.out.wr HM_6.out hW)
        have HM_7 := Lib.hid hB; have HW_7 := Lib.hid (HW_6.out.trans hW)
        clear hB hW
        clear k0 k1 k2 k3
        obtain ⟨k0, k1, k2, k3⟩ := HC_7.out
        rw [Nat.zero_add] at k1 k2 k3
        go_wp2_with fail
        refine (HST1.out _ HM_7.out).mono ?_
        rintro e w8 ⟨A8, c8, rfl, ho, hb⟩
        have HC_8 := Lib.hid (HC_7.out.below hb)
        have HS_8 := Lib.hid (HS_7.out.below hb)
        have HL_8 := Lib.hid (HL_7.out.below hb)
        have HN_8 := Lib.hid (HN_7.out.below hb)
        have HM_8 := Lib.hid (HM_7.out.below hb); have HW_8 := Lib.hid (HW_7.out.trans (Wr.of_below (S := GB g m) hb))
        have HX_8 := Lib.hid (ho.stp.2)
        clear hb
        clear k0 k1 k2 k3
        clear ho
        obtain ⟨k0, k1, k2, k3⟩ := HC_8.out
        rw [Nat.zero_add] at k1 k2 k3
        go_wp2_with fail
        refine (HSA1.out _ _ _ _ _ HX_8.out HN_8.out).mono ?_
        rintro e w9 ⟨rfl, hb⟩
        have HC_9 := Lib.hid (HC_8.out.below hb)
        have HS_9 := Lib.hid (HS_8.out.below hb)
        have HL_9 := Lib.hid (HL_8.out.below hb)
        have HN_9 := Lib.hid (HN_8.out.below hb)
        have HX_9 := Lib.hid (HX_8.out.below hb)
        have HM_9 := Lib.hid (HM_8.out.below hb); have HW_9 := Lib.hid (HW_8.out.trans (Wr.of_below (S := GB g m) hb))
        clear hb
        clear k0 k1 k2 k3
        obtain ⟨k0, k1, k2, k3⟩ := HC_9.out
        rw [Nat.zero_add] at k1 k2 k3
        go_wp2_with fail
        refine (HCU.out _ HM_9.out).mono ?_
        rintro e w10 ⟨e2, F2, L2, rfl, hco, hB, hW⟩
        have hbo := cut_back HI.out HI1.out HWF1.out HNF.out HS0.out HV1.out hco
        clear hco
        have HC_10 := Lib.hid (HC_9.out.wr HM_9.out hW)
        have HS_10 := Lib.hid (HS_9.out.wr HM_9.out hW)
        have HL_10 := Lib.hid (HL_9.out.wr HM_9.out hW)
        have HN_10 := Lib.hid (HN_9.out.wr HM_9.out hW)
        have HX_10 := Lib.hid (HX_9.out.wr HM_9.out hW)
        have HM_10 := Lib.hid hB; have HW_10 := Lib.hid (HW_9.out.trans hW)
        clear hB hW
        clear k0 k1 k2 k3
        rcases hbo with ⟨rfl, rfl, rfl⟩ | ⟨hee, T', s', hI2, hwf2, hf2, hbk⟩
        · obtain ⟨k0, k1, k2, k3⟩ := HC_10.out
          rw [Nat.zero_add] at k1 k2 k3
          go_wp2_with fail
          refine (HGN.out _ HM_10.out).mono ?_
          rintro e w11 ⟨rfl, hb⟩
          have HC_11 := Lib.hid (HC_10.out.below hb)
          have HS_11 := Lib.hid (HS_10.out.below hb)
          have HL_11 := Lib.hid (HL_10.out.below hb)
          have HN_11 := Lib.hid (HN_10.out.below hb)
          have HX_11 := Lib.hid (HX_10.out.below hb)
          have HM_11 := Lib.hid (HM_10.out.below hb); have HW_11 := Lib.hid (HW_10.out.trans (Wr.of_below (S := GB g m) hb))
          clear hb
          clear k0 k1 k2 k3
          have hb := al w11 (.cells #[.int .i64 0, .int .i64 0, .int .i64 0, .int .i64 0] 32)
          have HZ_12 : (w11.alloc (.cells #[.int .i64 0, .int .i64 0, .int .i64 0, .int .i64 0] 32)).heap.size = w11.heap.size + 1 := by simp
          have HC_12 := Lib.hid (HC_11.out.below hb)
          have HS_12 := Lib.hid (HS_11.out.below hb)
          have HL_12 := Lib.hid (HL_11.out.below hb)
          have HN_12 := Lib.hid (HN_11.out.below hb)
          have HX_12 := Lib.hid (HX_11.out.below hb)
          have HM_12 := Lib.hid (HM_11.out.below hb); have HW_12 := Lib.hid (HW_11.out.trans (Wr.of_below (S := GB g m) hb))
          clear hb
          obtain ⟨k0, k1, k2, k3⟩ := HC_12.out
          rw [Nat.zero_add] at k1 k2 k3
          go_wp2_with fail
          generalize w11.alloc (.cells #[.int .i64 0, .int .i64 0, .int .i64 0, .int .i64 0] 32) = w12 at HC_12 HM_12 HW_12 HS_12 HL_12 HN_12 HX_12 HZ_12 k0 k1 k2 k3 ⊢
          try rw [← HZ_12]
          clear HZ_12
          refine (HSTF.out _ HM_12.out).mono ?_
          rintro e w13 ⟨A13, c13, rfl, ho, hb⟩
          have HC_13 := Lib.hid (HC_12.out.below hb)
          have HS_13 := Lib.hid (HS_12.out.below hb)
          have HL_13 := Lib.hid (HL_12.out.below hb)
          have HN_13 := Lib.hid (HN_12.out.below hb)
          have HX_13 := Lib.hid (HX_12.out.below hb)
          have HM_13 := Lib.hid (HM_12.out.below hb); have HW_13 := Lib.hid (HW_12.out.trans (Wr.of_below (S := GB g m) hb))
          have HX_13 := Lib.hid (ho.stp.2)
          clear hb
          clear k0 k1 k2 k3
          clear ho
          obtain ⟨k0, k1, k2, k3⟩ := HC_13.out
          rw [Nat.zero_add] at k1 k2 k3
          go_wp2_with fail
          refine (HSA.out _ _ _ _ _ HX_13.out HS_13.out).mono ?_
          rintro e w14 ⟨rfl, hb⟩
          have HC_14 := Lib.hid (HC_13.out.below hb)
          have HS_14 := Lib.hid (HS_13.out.below hb)
          have HL_14 := Lib.hid (HL_13.out.below hb)
          have HN_14 := Lib.hid (HN_13.out.below hb)
          have HX_14 := Lib.hid (HX_13.out.below hb)
          have HM_14 := Lib.hid (HM_13.out.below hb); have HW_14 := Lib.hid (HW_13.out.trans (Wr.of_below (S := GB g m) hb))
          clear hb
          clear k0 k1 k2 k3
          obtain ⟨k0, k1, k2, k3⟩ := HC_14.out
          rw [Nat.zero_add] at k1 k2 k3
          go_wp2_with fail
          refine (HSLF.out _ HM_14.out).mono ?_
          rintro e w15 ⟨A15, c15, rfl, ho, hb⟩
          have HC_15 := Lib.hid (HC_14.out.below hb)
          have HS_15 := Lib.hid (HS_14.out.below hb)
          have HL_15 := Lib.hid (HL_14.out.below hb)
          have HN_15 := Lib.hid (HN_14.out.below hb)
          have HX_15 := Lib.hid (HX_14.out.below hb)
          have HM_15 := Lib.hid (HM_14.out.below hb); have HW_15 := Lib.hid (HW_14.out.trans (Wr.of_below (S := GB g m) hb))
          have HY_15 := Lib.hid (ho)
          clear hb
          clear k0 k1 k2 k3
          clear ho
          obtain ⟨k0, k1, k2, k3⟩ := HC_15.out
          rw [Nat.zero_add] at k1 k2 k3
          go_wp2_with fail
          refine (HLA.out _ _ _ _ _ HY_15.out HL_15.out).mono ?_
          rintro e w16 ⟨rfl, hb⟩
          have HC_16 := Lib.hid (HC_15.out.below hb)
          have HS_16 := Lib.hid (HS_15.out.below hb)
          have HL_16 := Lib.hid (HL_15.out.below hb)
          have HN_16 := Lib.hid (HN_15.out.below hb)
          have HX_16 := Lib.hid (HX_15.out.below hb)
          have HY_16 := Lib.hid (HY_15.out.below hb)
          have HM_16 := Lib.hid (HM_15.out.below hb); have HW_16 := Lib.hid (HW_15.out.trans (Wr.of_below (S := GB g m) hb))
          clear hb
          clear k0 k1 k2 k3
          obtain ⟨k0, k1, k2, k3⟩ := HC_16.out
          rw [Nat.zero_add] at k1 k2 k3
          go_wp2_with fail
          have HA17 := Lib.hid (al w16 (.cells #[.int .i64 s.id] 3))
          refine (HFF.out _ (HM_16.out.below HA17.out) _ _ ?hA).mono ?_
          case hA =>
            intro i x hx
            obtain ⟨b, off, e, hc⟩ := (its_one w16 s.id 3).cells i x hx
            refine ⟨b, off, e, hc, ?_⟩
            injection e with e
            injection e with e
            subst e
            have := HM_16.out.lt
            rintro (e | e) <;> omega
          rintro e w17 ⟨e9, F9, M9, rfl, hfo, hB, hW⟩
          obtain ⟨rfl, rfl, rfl⟩ := free_none HNF.out hfo
          have HC_17 := Lib.hid ((HC_16.out.below HA17.out).wr (HM_16.out.below HA17.out) hW)
          have HM_17 := Lib.hid hB; have HW_17 := Lib.hid ((HW_16.out.trans (Wr.of_below (S := GB g m) HA17.out)).trans hW)
          clear hB hW hfo k0 k1 k2 k3
          obtain ⟨k0, k1, k2, k3⟩ := HC_17.out
          rw [Nat.zero_add] at k1 k2 k3
          go_wp2_with fail
          refine (HK.out _).mono ?_
          rintro e w' ⟨rfl, hw⟩
          have HWX := Lib.hid (HW_17.out.trans (Wr.of_below (S := GB g m) hw))
          clear hw
          go_wp2
          go_ret
          exact ⟨rfl, below_wr HB1.out HWX.out HGM.out.1 HGM.out.2⟩
        · rcases hee with ⟨rfl, rfl⟩ | rfl
          · have HGS := Lib.hid fun (W : World) (hb : BookM W g m N F2 L2) => get_any s.id ws W g m N F2 L2 hb
            rw [get_some hf2] at HGS
            have HFS2 := Lib.hid fun (W : World) (hb : BookM W g m N F2 L2) (A : Option Addr) (d : Nat) hA => free_any [s.id] W g m N F2 L2 T' (i + 1 + 1) hI2 (by omega) hwf2 (fun x hx => by simp at hx; subst hx; exact ws) (by simp) A d hA hb
            have HBK := Lib.hid hbk
            clear hf2 hI2 hwf2 hbk
            have HST2 := Lib.hid fun (W : World) (hb : BookM W g m N F2 L2) => steps_any W g m N F2 L2 HI1.out.prof (by have := HI1.out.len; omega) hb
            obtain ⟨k0, k1, k2, k3⟩ := HC_10.out
            rw [Nat.zero_add] at k1 k2 k3
            go_wp2_with fail
            refine (HST2.out _ HM_10.out).mono ?_
            rintro e w11 ⟨A11, c11, rfl, ho, hb⟩
            have HC_11 := Lib.hid (HC_10.out.below hb)
            have HS_11 := Lib.hid (HS_10.out.below hb)
            have HL_11 := Lib.hid (HL_10.out.below hb)
            have HN_11 := Lib.hid (HN_10.out.below hb)
            have HX_11 := Lib.hid (HX_10.out.below hb)
            have HM_11 := Lib.hid (HM_10.out.below hb); have HW_11 := Lib.hid (HW_10.out.trans (Wr.of_below (S := GB g m) hb))
            have HX_11 := Lib.hid (ho.stp.2)
            clear hb
            clear k0 k1 k2 k3
            clear ho
            obtain ⟨k0, k1, k2, k3⟩ := HC_11.out
            rw [Nat.zero_add] at k1 k2 k3
            go_wp2_with fail
            refine (HSA1.out _ _ _ _ _ HX_11.out HN_11.out).mono ?_
            rintro e w12 ⟨rfl, hb⟩
            have HC_12 := Lib.hid (HC_11.out.below hb)
            have HS_12 := Lib.hid (HS_11.out.below hb)
            have HL_12 := Lib.hid (HL_11.out.below hb)
            have HN_12 := Lib.hid (HN_11.out.below hb)
            have HX_12 := Lib.hid (HX_11.out.below hb)
            have HM_12 := Lib.hid (HM_11.out.below hb); have HW_12 := Lib.hid (HW_11.out.trans (Wr.of_below (S := GB g m) hb))
            clear hb
            clear k0 k1 k2 k3
            obtain ⟨k0, k1, k2, k3⟩ := HC_12.out
            rw [Nat.zero_add] at k1 k2 k3
            go_wp2_with fail
            refine (HGS.out _ HM_12.out).mono ?_
            rintro e w13 ⟨rfl, hb⟩
            have HC_13 := Lib.hid (HC_12.out.below hb)
            have HS_13 := Lib.hid (HS_12.out.below hb)
            have HL_13 := Lib.hid (HL_12.out.below hb)
            have HN_13 := Lib.hid (HN_12.out.below hb)
            have HX_13 := Lib.hid (HX_12.out.below hb)
            have HM_13 := Lib.hid (HM_12.out.below hb); have HW_13 := Lib.hid (HW_12.out.trans (Wr.of_below (S := GB g m) hb))
            clear hb
            clear k0 k1 k2 k3
            have hb := al w13 (.cells #[.int .i64 s'.id, .int .i64 s'.fm, .int .i64 s'.to, .int .i64 s'.nd] 32)
            have HZ_14 : (w13.alloc (.cells #[.int .i64 s'.id, .int .i64 s'.fm, .int .i64 s'.to, .int .i64 s'.nd] 32)).heap.size = w13.heap.size + 1 := by simp
            have HC_14 := Lib.hid (HC_13.out.below hb)
            have HS_14 := Lib.hid (HS_13.out.below hb)
            have HL_14 := Lib.hid (HL_13.out.below hb)
            have HN_14 := Lib.hid (HN_13.out.below hb)
            have HX_14 := Lib.hid (HX_13.out.below hb)
            have HM_14 := Lib.hid (HM_13.out.below hb); have HW_14 := Lib.hid (HW_13.out.trans (Wr.of_below (S := GB g m) hb))
            clear hb
            obtain ⟨k0, k1, k2, k3⟩ := HC_14.out
            rw [Nat.zero_add] at k1 k2 k3
            go_wp2_with fail
            generalize w13.alloc (.cells #[.int .i64 s'.id, .int .i64 s'.fm, .int .i64 s'.to, .int .i64 s'.nd] 32) = w14 at HC_14 HM_14 HW_14 HS_14 HL_14 HN_14 HX_14 HZ_14 k0 k1 k2 k3 ⊢
            try rw [← HZ_14]
            clear HZ_14
            have HA15 := Lib.hid (al w14 (.cells #[.int .i64 s.id] 3))
            refine (HFS2.out _ (HM_14.out.below HA15.out) _ _ ?hA).mono ?_
            case hA =>
              intro i x hx
              obtain ⟨b, off, e, hc⟩ := (its_one w14 s.id 3).cells i x hx
              refine ⟨b, off, e, hc, ?_⟩
              injection e with e
              injection e with e
              subst e
              have := HM_14.out.lt
              rintro (e | e) <;> omega
            rintro e w15 ⟨e9, F9, M9, rfl, hfo, hB, hW⟩
            obtain ⟨rfl, rfl, rfl⟩ := HBK.out _ _ _ hfo
            have HC_15 := Lib.hid ((HC_14.out.below HA15.out).wr (HM_14.out.below HA15.out) hW)
            have HS_15 := Lib.hid ((HS_14.out.below HA15.out).wr (HM_14.out.below HA15.out) hW)
            have HL_15 := Lib.hid ((HL_14.out.below HA15.out).wr (HM_14.out.below HA15.out) hW)
            have HN_15 := Lib.hid ((HN_14.out.below HA15.out).wr (HM_14.out.below HA15.out) hW)
            have HX_15 := Lib.hid ((HX_14.out.below HA15.out).wr (HM_14.out.below HA15.out) hW)
            have HM_15 := Lib.hid hB; have HW_15 := Lib.hid ((HW_14.out.trans (Wr.of_below (S := GB g m) HA15.out)).trans hW)
            clear hB hW hfo k0 k1 k2 k3
            obtain ⟨k0, k1, k2, k3⟩ := HC_15.out
            rw [Nat.zero_add] at k1 k2 k3
            go_wp2_with fail
            refine (HSTF.out _ HM_15.out).mono ?_
            rintro e w16 ⟨A16, c16, rfl, ho, hb⟩
            have HC_16 := Lib.hid (HC_15.out.below hb)
            have HS_16 := Lib.hid (HS_15.out.below hb)
            have HL_16 := Lib.hid (HL_15.out.below hb)
            have HN_16 := Lib.hid (HN_15.out.below hb)
            have HX_16 := Lib.hid (HX_15.out.below hb)
            have HM_16 := Lib.hid (HM_15.out.below hb); have HW_16 := Lib.hid (HW_15.out.trans (Wr.of_below (S := GB g m) hb))
            have HX_16 := Lib.hid (ho.stp.2)
            clear hb
            clear k0 k1 k2 k3
            clear ho
            obtain ⟨k0, k1, k2, k3⟩ := HC_16.out
            rw [Nat.zero_add] at k1 k2 k3
            go_wp2_with fail
            refine (HSA.out _ _ _ _ _ HX_16.out HS_16.out).mono ?_
            rintro e w17 ⟨rfl, hb⟩
            have HC_17 := Lib.hid (HC_16.out.below hb)
            have HS_17 := Lib.hid (HS_16.out.below hb)
            have HL_17 := Lib.hid (HL_16.out.below hb)
            have HN_17 := Lib.hid (HN_16.out.below hb)
            have HX_17 := Lib.hid (HX_16.out.below hb)
            have HM_17 := Lib.hid (HM_16.out.below hb); have HW_17 := Lib.hid (HW_16.out.trans (Wr.of_below (S := GB g m) hb))
            clear hb
            clear k0 k1 k2 k3
            obtain ⟨k0, k1, k2, k3⟩ := HC_17.out
            rw [Nat.zero_add] at k1 k2 k3
            go_wp2_with fail
            refine (HSLF.out _ HM_17.out).mono ?_
            rintro e w18 ⟨A18, c18, rfl, ho, hb⟩
            have HC_18 := Lib.hid (HC_17.out.below hb)
            have HS_18 := Lib.hid (HS_17.out.below hb)
            have HL_18 := Lib.hid (HL_17.out.below hb)
            have HN_18 := Lib.hid (HN_17.out.below hb)
            have HX_18 := Lib.hid (HX_17.out.below hb)
            have HM_18 := Lib.hid (HM_17.out.below hb); have HW_18 := Lib.hid (HW_17.out.trans (Wr.of_below (S := GB g m) hb))
            have HY_18 := Lib.hid (ho)
            clear hb
            clear k0 k1 k2 k3
            clear ho
            obtain ⟨k0, k1, k2, k3⟩ := HC_18.out
            rw [Nat.zero_add] at k1 k2 k3
            go_wp2_with fail
            refine (HLA.out _ _ _ _ _ HY_18.out HL_18.out).mono ?_
            rintro e w19 ⟨rfl, hb⟩
            have HC_19 := Lib.hid (HC_18.out.below hb)
            have HS_19 := Lib.hid (HS_18.out.below hb)
            have HL_19 := Lib.hid (HL_18.out.below hb)
            have HN_19 := Lib.hid (HN_18.out.below hb)
            have HX_19 := Lib.hid (HX_18.out.below hb)
            have HY_19 := Lib.hid (HY_18.out.below hb)
            have HM_19 := Lib.hid (HM_18.out.below hb); have HW_19 := Lib.hid (HW_18.out.trans (Wr.of_below (S := GB g m) hb))
            clear hb
            clear k0 k1 k2 k3
            obtain ⟨k0, k1, k2, k3⟩ := HC_19.out
            rw [Nat.zero_add] at k1 k2 k3
            go_wp2_with fail
            have HA20 := Lib.hid (al w19 (.cells #[.int .i64 s.id] 3))
            refine (HFF.out _ (HM_19.out.below HA20.out) _ _ ?hA).mono ?_
            case hA =>
              intro i x hx
              obtain ⟨b, off, e, hc⟩ := (its_one w19 s.id 3).cells i x hx
              refine ⟨b, off, e, hc, ?_⟩
              injection e with e
              injection e with e
              subst e
              have := HM_19.out.lt
              rintro (e | e) <;> omega
            rintro e w20 ⟨e9, F9, M9, rfl, hfo, hB, hW⟩
            obtain ⟨rfl, rfl, rfl⟩ := free_none HNF.out hfo
            have HC_20 := Lib.hid ((HC_19.out.below HA20.out).wr (HM_19.out.below HA20.out) hW)
            have HM_20 := Lib.hid hB; have HW_20 := Lib.hid ((HW_19.out.trans (Wr.of_below (S := GB g m) HA20.out)).trans hW)
            clear hB hW hfo k0 k1 k2 k3
            obtain ⟨k0, k1, k2, k3⟩ := HC_20.out
            rw [Nat.zero_add] at k1 k2 k3
            go_wp2_with fail
            refine (HK.out _).mono ?_
            rintro e w' ⟨rfl, hw⟩
            have HWX := Lib.hid (HW_20.out.trans (Wr.of_below (S := GB g m) hw))
            clear hw
            go_wp2
            go_ret
            exact ⟨rfl, below_wr HB1.out HWX.out HGM.out.1 HGM.out.2⟩
          · have HGS := Lib.hid fun (W : World) (hb : BookM W g m N F2 L2) => get_any s.id ws W g m N F2 L2 hb
            rw [get_some hf2] at HGS
            have HFS2 := Lib.hid fun (W : World) (hb : BookM W g m N F2 L2) (A : Option Addr) (d : Nat) hA => free_any [s.id] W g m N F2 L2 T' (i + 1 + 1) hI2 (by omega) hwf2 (fun x hx => by simp at hx; subst hx; exact ws) (by simp) A d hA hb
            have HBK := Lib.hid hbk
            clear hf2 hI2 hwf2 hbk
            obtain ⟨k0, k1, k2, k3⟩ := HC_10.out
            rw [Nat.zero_add] at k1 k2 k3
            go_wp2_with fail
            refine (HGS.out _ HM_10.out).mono ?_
            rintro e w11 ⟨rfl, hb⟩
            have HC_11 := Lib.hid (HC_10.out.below hb)
            have HS_11 := Lib.hid (HS_10.out.below hb)
            have HL_11 := Lib.hid (HL_10.out.below hb)
            have HN_11 := Lib.hid (HN_10.out.below hb)
            have HX_11 := Lib.hid (HX_10.out.below hb)
            have HM_11 := Lib.hid (HM_10.out.below hb); have HW_11 := Lib.hid (HW_10.out.trans (Wr.of_below (S := GB g m) hb))
            clear hb
            clear k0 k1 k2 k3
            have hb := al w11 (.cells #[.int .i64 s'.id, .int .i64 s'.fm, .int .i64 s'.to, .int .i64 s'.nd] 32)
            have HZ_12 : (w11.alloc (.cells #[.int .i64 s'.id, .int .i64 s'.fm, .int .i64 s'.to, .int .i64 s'.nd] 32)).heap.size = w11.heap.size + 1 := by simp
            have HC_12 := Lib.hid (HC_11.out.below hb)
            have HS_12 := Lib.hid (HS_11.out.below hb)
            have HL_12 := Lib.hid (HL_11.out.below hb)
            have HN_12 := Lib.hid (HN_11.out.below hb)
            have HX_12 := Lib.hid (HX_11.out.below hb)
            have HM_12 := Lib.hid (HM_11.out.below hb); have HW_12 := Lib.hid (HW_11.out.trans (Wr.of_below (S := GB g m) hb))
            clear hb
            obtain ⟨k0, k1, k2, k3⟩ := HC_12.out
            rw [Nat.zero_add] at k1 k2 k3
            go_wp2_with fail
            generalize w11.alloc (.cells #[.int .i64 s'.id, .int .i64 s'.fm, .int .i64 s'.to, .int .i64 s'.nd] 32) = w12 at HC_12 HM_12 HW_12 HS_12 HL_12 HN_12 HX_12 HZ_12 k0 k1 k2 k3 ⊢
            try rw [← HZ_12]
            clear HZ_12
            have HA13 := Lib.hid (al w12 (.cells #[.int .i64 s.id] 3))
            refine (HFS2.out _ (HM_12.out.below HA13.out) _ _ ?hA).mono ?_
            case hA =>
              intro i x hx
              obtain ⟨b, off, e, hc⟩ := (its_one w12 s.id 3).cells i x hx
              refine ⟨b, off, e, hc, ?_⟩
              injection e with e
              injection e with e
              subst e
              have := HM_12.out.lt
              rintro (e | e) <;> omega
            rintro e w13 ⟨e9, F9, M9, rfl, hfo, hB, hW⟩
            obtain ⟨rfl, rfl, rfl⟩ := HBK.out _ _ _ hfo
            have HC_13 := Lib.hid ((HC_12.out.below HA13.out).wr (HM_12.out.below HA13.out) hW)
            have HS_13 := Lib.hid ((HS_12.out.below HA13.out).wr (HM_12.out.below HA13.out) hW)
            have HL_13 := Lib.hid ((HL_12.out.below HA13.out).wr (HM_12.out.below HA13.out) hW)
            have HN_13 := Lib.hid ((HN_12.out.below HA13.out).wr (HM_12.out.below HA13.out) hW)
            have HX_13 := Lib.hid ((HX_12.out.below HA13.out).wr (HM_12.out.below HA13.out) hW)
            have HM_13 := Lib.hid hB; have HW_13 := Lib.hid ((HW_12.out.trans (Wr.of_below (S := GB g m) HA13.out)).trans hW)
            clear hB hW hfo k0 k1 k2 k3
            obtain ⟨k0, k1, k2, k3⟩ := HC_13.out
            rw [Nat.zero_add] at k1 k2 k3
            go_wp2_with fail
            refine (HSTF.out _ HM_13.out).mono ?_
            rintro e w14 ⟨A14, c14, rfl, ho, hb⟩
            have HC_14 := Lib.hid (HC_13.out.below hb)
            have HS_14 := Lib.hid (HS_13.out.below hb)
            have HL_14 := Lib.hid (HL_13.out.below hb)
            have HN_14 := Lib.hid (HN_13.out.below hb)
            have HX_14 := Lib.hid (HX_13.out.below hb)
            have HM_14 := Lib.hid (HM_13.out.below hb); have HW_14 := Lib.hid (HW_13.out.trans (Wr.of_below (S := GB g m) hb))
            have HX_14 := Lib.hid (ho.stp.2)
            clear hb
            clear k0 k1 k2 k3
            clear ho
            obtain ⟨k0, k1, k2, k3⟩ := HC_14.out
            rw [Nat.zero_add] at k1 k2 k3
            go_wp2_with fail
            refine (HSA.out _ _ _ _ _ HX_14.out HS_14.out).mono ?_
            rintro e w15 ⟨rfl, hb⟩
            have HC_15 := Lib.hid (HC_14.out.below hb)
            have HS_15 := Lib.hid (HS_14.out.below hb)
            have HL_15 := Lib.hid (HL_14.out.below hb)
            have HN_15 := Lib.hid (HN_14.out.below hb)
            have HX_15 := Lib.hid (HX_14.out.below hb)
            have HM_15 := Lib.hid (HM_14.out.below hb); have HW_15 := Lib.hid (HW_14.out.trans (Wr.of_below (S := GB g m) hb))
            clear hb
            clear k0 k1 k2 k3
            obtain ⟨k0, k1, k2, k3⟩ := HC_15.out
            rw [Nat.zero_add] at k1 k2 k3
            go_wp2_with fail
            refine (HSLF.out _ HM_15.out).mono ?_
            rintro e w16 ⟨A16, c16, rfl, ho, hb⟩
            have HC_16 := Lib.hid (HC_15.out.below hb)
            have HS_16 := Lib.hid (HS_15.out.below hb)
            have HL_16 := Lib.hid (HL_15.out.below hb)
            have HN_16 := Lib.hid (HN_15.out.below hb)
            have HX_16 := Lib.hid (HX_15.out.below hb)
            have HM_16 := Lib.hid (HM_15.out.below hb); have HW_16 := Lib.hid (HW_15.out.trans (Wr.of_below (S := GB g m) hb))
            have HY_16 := Lib.hid (ho)
            clear hb
            clear k0 k1 k2 k3
            clear ho
            obtain ⟨k0, k1, k2, k3⟩ := HC_16.out
            rw [Nat.zero_add] at k1 k2 k3
            go_wp2_with fail
            refine (HLA.out _ _ _ _ _ HY_16.out HL_16.out).mono ?_
            rintro e w17 ⟨rfl, hb⟩
            have HC_17 := Lib.hid (HC_16.out.below hb)
            have HS_17 := Lib.hid (HS_16.out.below hb)
            have HL_17 := Lib.hid (HL_16.out.below hb)
            have HN_17 := Lib.hid (HN_16.out.below hb)
            have HX_17 := Lib.hid (HX_16.out.below hb)
            have HY_17 := Lib.hid (HY_16.out.below hb)
            have HM_17 := Lib.hid (HM_16.out.below hb); have HW_17 := Lib.hid (HW_16.out.trans (Wr.of_below (S := GB g m) hb))
            clear hb
            clear k0 k1 k2 k3
            obtain ⟨k0, k1, k2, k3⟩ := HC_17.out
            rw [Nat.zero_add] at k1 k2 k3
            go_wp2_with fail
            have HA18 := Lib.hid (al w17 (.cells #[.int .i64 s.id] 3))
            refine (HFF.out _ (HM_17.out.below HA18.out) _ _ ?hA).mono ?_
            case hA =>
              intro i x hx
              obtain ⟨b, off, e, hc⟩ := (its_one w17 s.id 3).cells i x hx
              refine ⟨b, off, e, hc, ?_⟩
              injection e with e
              injection e with e
              subst e
              have := HM_17.out.lt
              rintro (e | e) <;> omega
            rintro e w18 ⟨e9, F9, M9, rfl, hfo, hB, hW⟩
            obtain ⟨rfl, rfl, rfl⟩ := free_none HNF.out hfo
            have HC_18 := Lib.hid ((HC_17.out.below HA18.out).wr (HM_17.out.below HA18.out) hW)
            have HM_18 := Lib.hid hB; have HW_18 := Lib.hid ((HW_17.out.trans (Wr.of_below (S := GB g m) HA18.out)).trans hW)
            clear hB hW hfo k0 k1 k2 k3
            obtain ⟨k0, k1, k2, k3⟩ := HC_18.out
            rw [Nat.zero_add] at k1 k2 k3
            go_wp2_with fail
            refine (HK.out _).mono ?_
            rintro e w' ⟨rfl, hw⟩
            have HWX := Lib.hid (HW_18.out.trans (Wr.of_below (S := GB g m) hw))
            clear hw
            go_wp2
            go_ret
            exact ⟨rfl, below_wr HB1.out HWX.out HGM.out.1 HGM.out.2⟩
      · have hr : takeF N F L s = F ∧ takeL N F L s = L := by unfold takeF takeL; rw [if_neg hne, if_neg hne]; exact ⟨rfl, rfl⟩
        rw [he, hr.1, hr.2] at HTK
        have heb : (e0 != 0) = true := by rw [bne_iff_ne, ← he]; exact hne
        have heb2 : (e0 == 0) = false := by rw [beq_eq_false_iff_ne, ← he]; exact hne
        clear he hr hne
        obtain ⟨k0, k1, k2, k3⟩ := HC_4.out
        rw [Nat.zero_add] at k1 k2 k3
        go_wp2_with fail
        refine (HTK.out _ HM_4.out).mono ?_
        rintro e w5 ⟨rfl, hB, hW⟩
        have HC_5 := Lib.hid (HC_4.out.wr HM_4.out hW)
        have HS_5 := Lib.hid (HS_4.out.wr HM_4.out hW)
        have HL_5 := Lib.hid (HL_4.out.wr HM_4.out hW)
        have HM_5 := Lib.hid hB; have HW_5 := Lib.hid (HW_4.out.trans hW)
        clear hB hW
        clear k0 k1 k2 k3
        obtain ⟨k0, k1, k2, k3⟩ := HC_5.out
        rw [Nat.zero_add] at k1 k2 k3
        go_wp2_with fail
        refine (HSTF.out _ HM_5.out).mono ?_
        rintro e w6 ⟨A6, c6, rfl, ho, hb⟩
        have HC_6 := Lib.hid (HC_5.out.below hb)
        have HS_6 := Lib.hid (HS_5.out.below hb)
        have HL_6 := Lib.hid (HL_5.out.below hb)
        have HM_6 := Lib.hid (HM_5.out.below hb); have HW_6 := Lib.hid (HW_5.out.trans (Wr.of_below (S := GB g m) hb))
        have HX_6 := Lib.hid (ho.stp.2)
        clear hb
        clear k0 k1 k2 k3
        clear ho
        obtain ⟨k0, k1, k2, k3⟩ := HC_6.out
        rw [Nat.zero_add] at k1 k2 k3
        go_wp2_with fail
        refine (HSA.out _ _ _ _ _ HX_6.out HS_6.out).mono ?_
        rintro e w7 ⟨rfl, hb⟩
        have HC_7 := Lib.hid (HC_6.out.below hb)
        have HS_7 := Lib.hid (HS_6.out.below hb)
        have HL_7 := Lib.hid (HL_6.out.below hb)
        have HX_7 := Lib.hid (HX_6.out.below hb)
        have HM_7 := Lib.hid (HM_6.out.below hb); have HW_7 := Lib.hid (HW_6.out.trans (Wr.of_below (S := GB g m) hb))
        clear hb
        clear k0 k1 k2 k3
        obtain ⟨k0, k1, k2, k3⟩ := HC_7.out
        rw [Nat.zero_add] at k1 k2 k3
        go_wp2_with fail
        refine (HSLF.out _ HM_7.out).mono ?_
        rintro e w8 ⟨A8, c8, rfl, ho, hb⟩
        have HC_8 := Lib.hid (HC_7.out.below hb)
        have HS_8 := Lib.hid (HS_7.out.below hb)
        have HL_8 := Lib.hid (HL_7.out.below hb)
        have HX_8 := Lib.hid (HX_7.out.below hb)
        have HM_8 := Lib.hid (HM_7.out.below hb); have HW_8 := Lib.hid (HW_7.out.trans (Wr.of_below (S := GB g m) hb))
        have HY_8 := Lib.hid (ho)
        clear hb
        clear k0 k1 k2 k3
        clear ho
        obtain ⟨k0, k1, k2, k3⟩ := HC_8.out
        rw [Nat.zero_add] at k1 k2 k3
        go_wp2_with fail
        refine (HLA.out _ _ _ _ _ HY_8.out HL_8.out).mono ?_
        rintro e w9 ⟨rfl, hb⟩
        have HC_9 := Lib.hid (HC_8.out.below hb)
        have HS_9 := Lib.hid (HS_8.out.below hb)
        have HL_9 := Lib.hid (HL_8.out.below hb)
        have HX_9 := Lib.hid (HX_8.out.below hb)
        have HY_9 := Lib.hid (HY_8.out.below hb)
        have HM_9 := Lib.hid (HM_8.out.below hb); have HW_9 := Lib.hid (HW_8.out.trans (Wr.of_below (S := GB g m) hb))
        clear hb
        clear k0 k1 k2 k3
        obtain ⟨k0, k1, k2, k3⟩ := HC_9.out
        rw [Nat.zero_add] at k1 k2 k3
        go_wp2_with fail
        refine (HK.out _).mono ?_
        rintro e w' ⟨rfl, hw⟩
        have HWX := Lib.hid (HW_9.out.trans (Wr.of_below (S := GB g m) hw))
        clear hw
        go_wp2
        go_ret
        exact ⟨rfl, below_wr HB1.out HWX.out HGM.out.1 HGM.out.2⟩

namespace bookBack
open Go.ChangeShapes Go.WideShapes Go.ChangeAt Go.RowKit
theorem own : ownKnob Try.prog.godebug = none := by kernel_rfl
theorem laidOut : laidOutB Try.prog = true := by kernel_rfl

set_option maxRecDepth 100000 in
theorem lifted (os : Os) (started : os.Started) (H : Type) (enc : TypeId × Value → H) :
    ReturnsInHanded {} Try.checked os 4 .any (Rows.bookBackSpec.pre6 enc Try.prog Try.f4 Rows.bookBackRow.domain false) (Rows.bookBackSpec.post enc Try.prog Try.f4 false true false false) := by
  refine returnsInHanded_of_change (C := Try.checked) own started (by kernel_rfl) Try.func4
    (ChangeSpec.witness6 (enc := enc) (C := Try.checked) false ⟨#[], #[.int .u8 0, .slice none 0 0, .agg #[.int .i64 0, .int .i64 0, .int .i64 0, .int .i64 0], .int .i64 0], []⟩ 8 (by kernel_rfl) (by kernel_rfl) (by kernel_rfl) (by kernel_rfl)) ?_
  intro W base args ds gs before hval0 hW hcnd _
  have hval : ∀ (j : Nat) t v, Try.f4.params[j]? = some t → args[j]? = some v → Value.okWide Try.prog W .any base t v := hval0
  have hW' := hW
  obtain ⟨p, q, hA0, hV, rfl, hfz, hnd⟩ := hW
  have hA : DataW.TrodAll enc Try.prog W 0 (fun _ => true) true Try.f4.params.toList args.toList ds p := hA0
  rw [Try.params4] at hA hval
  obtain ⟨v0, vs0, d0, ds0, p0, q0, hargs, rfl, rfl, h0, r0⟩ := trodAll_cons hA
  obtain ⟨v1, vs1, d1, ds1, p1, q1, rfl, rfl, rfl, h1, r1⟩ := trodAll_cons r0
  obtain ⟨v2, vs2, d2, ds2, p2, q2, rfl, rfl, rfl, h2, r2⟩ := trodAll_cons r1
  obtain ⟨v3, vs3, d3, ds3, p3, q3, rfl, rfl, rfl, h3, r3⟩ := trodAll_cons r2
  obtain ⟨rfl, rfl, rfl⟩ := trodAll_nil r3
  obtain rfl : args = #[v0, v1, v2, v3] := by cases args; simp_all
  obtain ⟨rfl, rfl⟩ := trodVars_none hV
  obtain ⟨a0, rfl, rfl, rfl, w0⟩ := open_int Try.underlying5 (hval 0 5 v0 rfl rfl) h0
  have k1 := h1
  have lt1 : ∀ x ∈ p1, x.block < W.heap.size := by obtain ⟨m, hm⟩ := k1; exact DataW.trod_lt m _ _ _ hm
  obtain ⟨A1, l1, c1, e1⟩ := okWide_slice Try.underlying22 (hval 1 22 v1 rfl rfl)
  obtain ⟨fuel1, hf1⟩ := h1
  rw [show v1.cells.toList = [v1] from by rw [e1]; rfl] at hf1
  clear e1 A1 l1 c1
  obtain ⟨A1, c1, z1, rfl, w1⟩ := Bk.dos_arg hf1
  have k2 := h2
  have lt2 : ∀ x ∈ p2, x.block < W.heap.size := by obtain ⟨m, hm⟩ := k2; exact DataW.trod_lt m _ _ _ hm
  obtain ⟨cs2, e2, _⟩ := okWide_struct Try.underlying32 (hval 2 32 v2 rfl rfl)
  obtain ⟨fuel2, hf2⟩ := h2
  rw [show v2.cells.toList = cs2.toList from by rw [e2]; rfl] at hf2
  obtain ⟨x2, hcs2, w2⟩ := Bk.slot_arg hf2
  obtain rfl : cs2 = #[.int .i64 x2.id, .int .i64 x2.fm, .int .i64 x2.to, .int .i64 x2.nd] := by rw [← Array.toArray_toList (xs := cs2), hcs2]
  subst e2
  clear hf2 hcs2
  obtain ⟨a3, rfl, rfl, rfl, w3⟩ := open_int Try.underlying3 (hval 3 3 v3 rfl rfl) h3
  clear hA0 hval0
  refine (walk_BookBack W a0 w0 A1 c1 z1 w1 x2 w2 a3).mono fun e W' ⟨he, bel⟩ => ?_
  subst he
  exact ⟨_, rfl, _, _, _, [], _, [], hW', trodAll_mk1 (shut_bool Try.underlying4 _), (trodAll_cons_mk (shut_int Try.underlying5 w0) (trodAll_cons_mk (Below.trod laidOut (by kernel_rfl) (of_decide_eq_true (by kernel_rfl)) k1 bel lt1) (trodAll_cons_mk (Below.trod laidOut (by kernel_rfl) (of_decide_eq_true (by kernel_rfl)) k2 bel lt2) (trodAll_cons_mk (shut_int Try.underlying3 w3) trodAll_mk0)))), rfl, bel.frame _, fun h => by cases h⟩

theorem over : Rows.bookBackRow.holds Try.pinned (OpenSpec.ofChange Rows.bookBackSpec) :=
  OpenClaim.holds_of_wide 4 Try.f4 rfl rfl rfl rfl rfl rfl rfl ⟨rfl, rfl, rfl, rfl, rfl⟩ rfl rfl rfl rfl rfl (by kernel_rfl) Try.func4 (by kernel_rfl)
    (of_decide_eq_true (by kernel_rfl)) (by unfold Func.isWrapper; first | (rw [if_pos (by decide +kernel)]; kernel_rfl) | (rw [if_neg (by decide +kernel)]; exact ⟨rfl, rfl⟩))
    (fun os started H enc _ => lifted os started H enc)

theorem proved : Rows.BookBackSaid := over
#print axioms proved
end bookBack
end Go.Proofs.Ytapojmniokdjfaa

