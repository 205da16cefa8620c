/- BookCuts: for any numbers, and any list of things that are done, the law returns true, and all read afterwards as before. No condition. -/
import Derived.Test.YtapojmniokdjfaaRows
import Derived.Test.YtapojmniokdjfaaBkDone
import Derived.Test.YtapojmniokdjfaaBkGet
import Derived.WalkKit
import Derived.ProofKit
import Derived.OpenShut
import Derived.ShutString
import Derived.ChangeOld
import Derived.Below
namespace Go.Proofs.Ytapojmniokdjfaa
open Go.ChangeShapes Go.WideShapes Go.ChangeAt Go.RowKit
open Stp (blw al dr drN kp Stp.below RetP at_any rsame_any sameB sameB_iff inW)
open Bk
set_option linter.unusedVariables false
theorem below_wr {w w1 w2 : World} {g m : Nat} (hb : Below w.heap.size w w1) (hw : Wr (GB g m) w1 w2) (hg : w.heap.size ≤ g) (hm : w.heap.size ≤ m) : Below w.heap.size w w2 := hb.trans (hw.below hb.size (by rintro b (rfl | rfl) <;> assumption))
theorem atV_prof {F : List StepD} {t : Int} (hp : Prof F) (ht : 0 ≤ t ∧ t ≤ 1099511627775) : atV F t = valF 0 F t := by
  unfold atV
  rw [if_pos ⟨chkD_prof.2 hp, Clk.isT_yes ht.1 ht.2⟩]
theorem get_none {L : List SlotD} {id : Int} (h : fndS id L = none) : getV L id = .tuple #[.agg #[.int .i64 0, .int .i64 0, .int .i64 0, .int .i64 0], .bool false] := by unfold getV; rw [h]
theorem get_some {L : List SlotD} {id : Int} {s : SlotD} (h : fndS id L = some s) : getV L id = .tuple #[.agg #[.int .i64 s.id, .int .i64 s.fm, .int .i64 s.to, .int .i64 s.nd], .bool true] := by unfold getV; rw [h]

set_option maxRecDepth 100000 in
set_option maxHeartbeats 12800000 in
theorem walk_BookCuts (w : World) (n : Int) (wn : (Lit.int .u8 n).wf = true) (A : Option Addr) (c : Nat) (l : List DoD) (h : Dos w A c l) (id : Int) (wid : (Lit.int .i64 id).wf = true) (to t : Int) :
    Calls Try.prog 7 #[.int .u8 n, .slice A l.length c, .int .i64 id, .int .i64 to, .int .i64 t] w fun e w' => e = .returned (.bool true) ∧ Below w.heap.size w w' := by
  have HK := Lib.hid known_any
  have hnb := u8b wn
  obtain ⟨ln, hln⟩ : ∃ ln, l.length = ln := ⟨_, rfl⟩
  have hlm : ln ≤ 9223372036854775807 := by rw [← hln]; exact Nat.le_trans h.cap (by have := h.top; simpa [maxLen] using this)
  rw [hln]
  clear wn
  by_cases h1 : 40 < ln
  · clear h hln
    go_enter Try.func7, Try.ntmps7
    go_wp2_with fail
    refine (HK.out _).mono ?_
    rintro e w' ⟨rfl, hw⟩
    go_wp2
    go_ret
    exact ⟨rfl, hw⟩
  by_cases h2 : t < 0
  · clear h hln
    go_enter Try.func7, Try.ntmps7
    go_wp2_with fail
    refine (HK.out _).mono ?_
    rintro e w' ⟨rfl, hw⟩
    go_wp2
    go_ret
    exact ⟨rfl, hw⟩
  by_cases h3 : 1099511627775 < t
  · clear h hln
    go_enter Try.func7, Try.ntmps7
    go_wp2_with fail
    refine (HK.out _).mono ?_
    rintro e w' ⟨rfl, hw⟩
    go_wp2
    go_ret
    exact ⟨rfl, hw⟩
  have htb : 0 ≤ t ∧ t ≤ 1099511627775 := by omega
  have hl40 : ln ≤ 40 := by omega
  obtain ⟨N, hN⟩ : ∃ N, 1 + n = N := ⟨_, rfl⟩
  have HN1 : Hid (1 ≤ N ∧ N ≤ 10000) := Lib.hid (by omega)
  have HN := Lib.hid fun (W : World) => newb_yes N HN1.out W
  have HD := Lib.hid h
  have HLN := Lib.hid hln
  clear h hln
  go_enter Try.func7, Try.ntmps7
  go_wp2_with fail
  try rw [hN]
  refine (HN.out _).mono ?_
  rintro e w1 ⟨g, m, rfl, hB1, hg, hm, hb1⟩
  have HB1 := Lib.hid hb1; have HM1 := Lib.hid hB1; have HGM := Lib.hid (And.intro hg hm)
  clear hb1 hB1 hg hm hN
  go_wp2_with fail
  go_loopw [13] (fun vi wr => ∃ (i : Nat) (F : List StepD) (L : List SlotD) (T : List Int), i ≤ ln ∧ vi = .int .i64 i ∧ Hid (BkI N F L T i) ∧ Hid (∀ s ∈ L, (Lit.int .i64 s.id).wf = true) ∧ Hid (BookM wr g m N F L) ∧ Hid (Wr (GB g m) w1 wr)) (fun vi _ => ln - (intOf vi).toNat)
  case atStart => exact ⟨0, _, _, [], Nat.zero_le _, rfl, Lib.hid (BkI.new HN1.out), Lib.hid (fun s hs => by cases hs), HM1, Lib.hid (Wr.refl _ _)⟩
  case round =>
    obtain ⟨i, F, L, T, hi, rfl, HI, HWF, HM, HW⟩ := hrel
    by_cases hlt : i < ln
    · obtain ⟨d, hd⟩ : ∃ d, l[i]? = some d := ⟨_, List.getElem?_eq_getElem (by rw [HLN.out]; exact hlt)⟩
      obtain ⟨b, off, eA, c0, c1, c2, c3, c4⟩ := (HD.out.below (below_wr HB1.out HW.out HGM.out.1 HGM.out.2)).cells i d hd
      subst eA
      have HDN := Lib.hid (done_any d (HD.out.wf d (List.mem_of_getElem? hd)) wr g m N F L T i HI.out (by omega) HWF.out HM.out)
      clear hd
      go_wp2_with fail
      refine HDN.out.mono ?_
      rintro e w2 ⟨A2, c2', ids, e0, F', L', rfl, hO, _, _, hB2, hW2⟩
      obtain ⟨T', hI'⟩ := hO.inv
      have HI' := Lib.hid hI'; have HWF' := Lib.hid hO.wf; have HM' := Lib.hid hB2; have HW' := Lib.hid (HW.out.trans hW2)
      clear hO hI' hB2 hW2
      go_wp2
      refine ⟨⟨i + 1, F', L', T', by omega, by go_num, HI', HWF', HM', HW'⟩, ?_⟩
      simp [intOf]; omega
    · obtain rfl : i = ln := by omega
      have HSTF := Lib.hid fun (W : World) (hb : BookM W g m N F L) => steps_any W g m N F L HI.out.prof (by have := HI.out.len; omega) hb
      have HCU := Lib.hid fun (W : World) (hb : BookM W g m N F L) => cut_any id to wid W g m N F L T i HI.out (by omega) HWF.out hb
      have HG1 := Lib.hid fun (W : World) (hb : BookM W g m N F L) => get_any id wid W g m N F L hb
      have HAT := Lib.hid fun (A : Option Addr) (d : Nat) (W : World) (hs : Stp.Stp W A d F) => at_any F t A F.length d rfl W hs
      rw [atV_prof HI.out.prof htb] at HAT
      have HSA := Lib.hid fun (A B : Option Addr) (x y : Nat) (W : World) (hs : Stp.Stp W A x F) (hs' : Stp.Stp W B y F) => rsame_any F F A B F.length F.length x y rfl rfl W hs hs'
      rw [show sameB F F = true from sameB_iff.2 rfl] at HSA
      clear hlt HD
      cases hf : fndS id L with
      | none =>
        rw [get_none hf] at HG1
        have HF := Lib.hid hf
        clear hf
        go_wp2_with fail
        refine (HG1.out _ HM.out).mono ?_
        rintro e w2 ⟨rfl, hb2⟩
        have HX2 := Lib.hid (al w2 (.cells #[.int .i64 0, .int .i64 0, .int .i64 0, .int .i64 0] 32))
        have HC2 := Lib.hid (C4.new w2 ⟨0, 0, 0, 0⟩ 32)
        have HM2 := Lib.hid (HM.out.below (blw hb2 HX2.out)); have HW2 := Lib.hid (HW.out.trans (Wr.of_below (S := GB g m) (blw hb2 HX2.out)))
        clear hb2
        go_wp2_with fail
        refine (HSTF.out _ HM2.out).mono ?_
        rintro e w3 ⟨A3, c3, rfl, ho3, hb3⟩
        have HS3 := Lib.hid ho3.stp.2
        have HM3 := Lib.hid (HM2.out.below hb3); have HW3 := Lib.hid (HW2.out.trans (Wr.of_below (S := GB g m) hb3)); have HC3 := Lib.hid (HC2.out.below hb3)
        clear ho3 hb3
        generalize w2.heap.size = tb at HC2 HC3 ⊢
        go_wp2_with fail
        refine (HCU.out _ HM3.out).mono ?_
        rintro e w4 ⟨e0, F', L', rfl, hco, hB4, hW4⟩
        have HM4 := Lib.hid hB4; have HW4 := Lib.hid (HW3.out.trans hW4); have HC4 := Lib.hid (HC3.out.wr HM3.out hW4); have HS4 := Lib.hid (HS3.out.wr HM3.out hW4)
        clear hB4 hW4
        obtain ⟨rfl, rfl, rfl⟩ : e0 = 4 ∧ F' = F ∧ L' = L := by
          rcases hco with ⟨_, a, b, c⟩ | ⟨s, a, _⟩ | ⟨s, a, _⟩ | ⟨s, a, _⟩
          · exact ⟨a, b, c⟩
          · rw [HF.out] at a; cases a
          · rw [HF.out] at a; cases a
          · rw [HF.out] at a; cases a
        clear hco
        obtain ⟨k0, k1, k2, k3⟩ := HC4.out
        go_wp2_with fail
        refine (HSTF.out _ HM4.out).mono ?_
        rintro e w5 ⟨A5, c5, rfl, ho5, hb5⟩
        have HS5 := Lib.hid ho5.stp.2
        have HS4b := Lib.hid (HS4.out.below hb5)
        have HW5 := Lib.hid (HW4.out.trans (Wr.of_below (S := GB g m) hb5))
        clear ho5 hb5 k0 k1 k2 k3
        go_wp2_with fail
        refine (HSA.out _ _ _ _ _ HS5.out HS4b.out).mono ?_
        rintro e w6 ⟨rfl, hb6⟩
        have HW6 := Lib.hid (HW5.out.trans (Wr.of_below (S := GB g m) hb6))
        clear hb6
        go_wp2_with fail
        refine (HK.out _).mono ?_
        rintro e w' ⟨rfl, hw⟩
        have HWX := Lib.hid (HW6.out.trans (Wr.of_below (S := GB g m) hw))
        clear hw
        go_wp2
        go_ret
        exact ⟨rfl, below_wr HB1.out HWX.out HGM.out.1 HGM.out.2⟩
      | some s =>
        rw [get_some hf] at HG1
        have HF := Lib.hid hf
        have hsb := HI.out.ok s (fnd_some hf).1
        have hsb1 := hsb.fm; have hsb2 := hsb.to; have hsb3 := hsb.nd; have hsb4 := HI.out.n
        clear hf hsb
        go_wp2_with fail
        refine (HG1.out _ HM.out).mono ?_
        rintro e w2 ⟨rfl, hb2⟩
        have HX2 := Lib.hid (al w2 (.cells #[.int .i64 s.id, .int .i64 s.fm, .int .i64 s.to, .int .i64 s.nd] 32))
        have HC2 := Lib.hid (C4.new w2 s 32)
        have HM2 := Lib.hid (HM.out.below (blw hb2 HX2.out)); have HW2 := Lib.hid (HW.out.trans (Wr.of_below (S := GB g m) (blw hb2 HX2.out)))
        clear hb2
        go_wp2_with fail
        refine (HSTF.out _ HM2.out).mono ?_
        rintro e w3 ⟨A3, c3, rfl, ho3, hb3⟩
        have HS3 := Lib.hid ho3.stp.2
        have HM3 := Lib.hid (HM2.out.below hb3); have HW3 := Lib.hid (HW2.out.trans (Wr.of_below (S := GB g m) hb3)); have HC3 := Lib.hid (HC2.out.below hb3)
        clear ho3 hb3
        generalize w2.heap.size = tb at HC2 HC3 ⊢
        go_wp2_with fail
        refine (HCU.out _ HM3.out).mono ?_
        rintro e w4 ⟨e0, F', L', rfl, hco, hB4, hW4⟩
        have HM4 := Lib.hid hB4; have HW4 := Lib.hid (HW3.out.trans hW4); have HC4 := Lib.hid (HC3.out.wr HM3.out hW4); have HS4 := Lib.hid (HS3.out.wr HM3.out hW4)
        clear hB4 hW4
        rcases hco with ⟨a, _⟩ | ⟨s', a, _, rfl, rfl, rfl⟩ | ⟨s', a, _, c1, c2, rfl, hP, hv, rfl⟩ | ⟨s', a, _, c1, c2, rfl, hP, hv, rfl⟩
        · rw [HF.out] at a; cases a
        · clear a
          obtain ⟨k0, k1, k2, k3⟩ := HC4.out
          go_wp2_with fail
          refine (HSTF.out _ HM4.out).mono ?_
          rintro e w5 ⟨A5, c5, rfl, ho5, hb5⟩
          have HS5 := Lib.hid ho5.stp.2
          have HS4b := Lib.hid (HS4.out.below hb5)
          have HW5 := Lib.hid (HW4.out.trans (Wr.of_below (S := GB g m) hb5))
          clear ho5 hb5 k0 k1 k2 k3
          go_wp2_with fail
          refine (HSA.out _ _ _ _ _ HS5.out HS4b.out).mono ?_
          rintro e w6 ⟨rfl, hb6⟩
          have HW6 := Lib.hid (HW5.out.trans (Wr.of_below (S := GB g m) hb6))
          clear hb6
          go_wp2_with fail
          refine (HK.out _).mono ?_
          rintro e w' ⟨rfl, hw⟩
          have HWX := Lib.hid (HW6.out.trans (Wr.of_below (S := GB g m) hw))
          clear hw
          go_wp2
          go_ret
          exact ⟨rfl, below_wr HB1.out HWX.out HGM.out.1 HGM.out.2⟩
        · obtain rfl : s = s' := by rw [HF.out] at a; injection a
          clear a
          have HST2 := Lib.hid fun (W : World) (hb : BookM W g m N F' (remS id L)) => steps_any W g m N F' (remS id L) hP (by have := (HI.out.free HF.out hP hv).len; omega) hb
          have HG2 := Lib.hid fun (W : World) (hb : BookM W g m N F' (remS id L)) => get_any id wid W g m N F' (remS id L) hb
          rw [get_none (L := remS id L) (id := id) (by rw [fnd_rem HI.out.rise, if_pos rfl])] at HG2
          have HAT2 := Lib.hid fun (A : Option Addr) (d : Nat) (W : World) (hs : Stp.Stp W A d F') => at_any F' t A F'.length d rfl W hs
          rw [atV_prof hP htb, hv t htb.1] at HAT2
          obtain ⟨v, hve⟩ : ∃ v, valF 0 F t = v := ⟨_, rfl⟩
          obtain ⟨v', hvv⟩ : ∃ v', v + inW s.fm s.to s.nd t = v' := ⟨_, rfl⟩
          have hvb := HI.out.prof.bd htb.1
          have hvb2 := hP.bd htb.1
          rw [hv t htb.1] at hvb2
          rw [hve, hvv] at HAT2
          rw [hve, hvv] at hvb2
          rw [hve] at HAT hvb
          have hvv := hvv.symm
          clear hve
          clear hP hv HSA HSTF HCU HG1
          by_cases q1 : to ≤ t
          · by_cases q2 : s.fm ≤ t
            · by_cases q3 : t < s.to
              · have hv2 : v' = v + s.nd := by rw [hvv]; unfold inW; rw [if_pos (by omega)]
                subst hv2
                clear hvv
                obtain ⟨k0, k1, k2, k3⟩ := HC4.out
                rw [Nat.zero_add] at k1 k2 k3
                go_wp2_with fail
                refine (HAT.out _ _ _ HS4.out).mono ?_
                rintro e w5 ⟨rfl, hb5⟩
                have HM5 := Lib.hid (HM4.out.below hb5); have HW5 := Lib.hid (HW4.out.trans (Wr.of_below (S := GB g m) hb5)); have HC5 := Lib.hid (HC4.out.below hb5)
                clear hb5 k0 k1 k2 k3
                obtain ⟨k0, k1, k2, k3⟩ := HC5.out
                rw [Nat.zero_add] at k1 k2 k3
                go_wp2_with fail
                refine (HG2.out _ HM5.out).mono ?_
                rintro e w6 ⟨rfl, hb6⟩
                have HX6 := Lib.hid (al w6 (.cells #[.int .i64 0, .int .i64 0, .int .i64 0, .int .i64 0] 32))
                have HY6 := Lib.hid (C4.new w6 ⟨0, 0, 0, 0⟩ 32)
                have HM6 := Lib.hid (HM5.out.below (blw hb6 HX6.out)); have HW6 := Lib.hid (HW5.out.trans (Wr.of_below (S := GB g m) (blw hb6 HX6.out))); have HC6 := Lib.hid (HC5.out.below (blw hb6 HX6.out))
                clear hb6 k0 k1 k2 k3
                go_wp2_with fail
                refine (HST2.out _ HM6.out).mono ?_
                rintro e w7 ⟨A7, c7, rfl, ho7, hb7⟩
                have HS7 := Lib.hid ho7.stp.2
                have HW7 := Lib.hid (HW6.out.trans (Wr.of_below (S := GB g m) hb7)); have HC7 := Lib.hid (HC6.out.below hb7); have HY7 := Lib.hid (HY6.out.below hb7)
                clear ho7 hb7
                generalize w6.heap.size = tc at HY6 HY7 ⊢
                go_wp2_with fail
                refine (HAT2.out _ _ _ HS7.out).mono ?_
                rintro e w8 ⟨rfl, hb8⟩
                have HW8 := Lib.hid (HW7.out.trans (Wr.of_below (S := GB g m) hb8)); have HC8 := Lib.hid (HC7.out.below hb8); have HY8 := Lib.hid (HY7.out.below hb8)
                clear hb8
                obtain ⟨k0, k1, k2, k3⟩ := HC8.out
                rw [Nat.zero_add] at k1 k2 k3
                obtain ⟨y0, y1, y2, y3⟩ := HY8.out
                rw [Nat.zero_add] at y1 y2 y3
                go_wp2_with fail
                refine (HK.out _).mono ?_
                rintro e w' ⟨rfl, hw⟩
                have HWX := Lib.hid (HW8.out.trans (Wr.of_below (S := GB g m) hw))
                clear hw
                go_wp2
                go_ret
                refine ⟨?_, below_wr HB1.out HWX.out HGM.out.1 HGM.out.2⟩
                show Ending.returned (.bool (!decide (s.fm < to))) = _
                rw [decide_eq_false (by omega : ¬ s.fm < to)]
                rfl
              · have hv2 : v' = v := by rw [hvv]; unfold inW; rw [if_neg (by omega)]; omega
                subst hv2
                clear hvv
                obtain ⟨k0, k1, k2, k3⟩ := HC4.out
                rw [Nat.zero_add] at k1 k2 k3
                go_wp2_with fail
                refine (HAT.out _ _ _ HS4.out).mono ?_
                rintro e w5 ⟨rfl, hb5⟩
                have HM5 := Lib.hid (HM4.out.below hb5); have HW5 := Lib.hid (HW4.out.trans (Wr.of_below (S := GB g m) hb5)); have HC5 := Lib.hid (HC4.out.below hb5)
                clear hb5 k0 k1 k2 k3
                obtain ⟨k0, k1, k2, k3⟩ := HC5.out
                rw [Nat.zero_add] at k1 k2 k3
                go_wp2_with fail
                refine (HG2.out _ HM5.out).mono ?_
                rintro e w6 ⟨rfl, hb6⟩
                have HX6 := Lib.hid (al w6 (.cells #[.int .i64 0, .int .i64 0, .int .i64 0, .int .i64 0] 32))
                have HY6 := Lib.hid (C4.new w6 ⟨0, 0, 0, 0⟩ 32)
                have HM6 := Lib.hid (HM5.out.below (blw hb6 HX6.out)); have HW6 := Lib.hid (HW5.out.trans (Wr.of_below (S := GB g m) (blw hb6 HX6.out))); have HC6 := Lib.hid (HC5.out.below (blw hb6 HX6.out))
                clear hb6 k0 k1 k2 k3
                go_wp2_with fail
                refine (HST2.out _ HM6.out).mono ?_
                rintro e w7 ⟨A7, c7, rfl, ho7, hb7⟩
                have HS7 := Lib.hid ho7.stp.2
                have HW7 := Lib.hid (HW6.out.trans (Wr.of_below (S := GB g m) hb7)); have HC7 := Lib.hid (HC6.out.below hb7); have HY7 := Lib.hid (HY6.out.below hb7)
                clear ho7 hb7
                generalize w6.heap.size = tc at HY6 HY7 ⊢
                go_wp2_with fail
                refine (HAT2.out _ _ _ HS7.out).mono ?_
                rintro e w8 ⟨rfl, hb8⟩
                have HW8 := Lib.hid (HW7.out.trans (Wr.of_below (S := GB g m) hb8)); have HC8 := Lib.hid (HC7.out.below hb8); have HY8 := Lib.hid (HY7.out.below hb8)
                clear hb8
                obtain ⟨k0, k1, k2, k3⟩ := HC8.out
                rw [Nat.zero_add] at k1 k2 k3
                obtain ⟨y0, y1, y2, y3⟩ := HY8.out
                rw [Nat.zero_add] at y1 y2 y3
                go_wp2_with fail
                refine (HK.out _).mono ?_
                rintro e w' ⟨rfl, hw⟩
                have HWX := Lib.hid (HW8.out.trans (Wr.of_below (S := GB g m) hw))
                clear hw
                go_wp2
                go_ret
                refine ⟨?_, below_wr HB1.out HWX.out HGM.out.1 HGM.out.2⟩
                show Ending.returned (.bool (!decide (s.fm < to))) = _
                rw [decide_eq_false (by omega : ¬ s.fm < to)]
                rfl
            · have hv2 : v' = v := by rw [hvv]; unfold inW; rw [if_neg (by omega)]; omega
              subst hv2
              clear hvv
              obtain ⟨k0, k1, k2, k3⟩ := HC4.out
              rw [Nat.zero_add] at k1 k2 k3
              go_wp2_with fail
              refine (HAT.out _ _ _ HS4.out).mono ?_
              rintro e w5 ⟨rfl, hb5⟩
              have HM5 := Lib.hid (HM4.out.below hb5); have HW5 := Lib.hid (HW4.out.trans (Wr.of_below (S := GB g m) hb5)); have HC5 := Lib.hid (HC4.out.below hb5)
              clear hb5 k0 k1 k2 k3
              obtain ⟨k0, k1, k2, k3⟩ := HC5.out
              rw [Nat.zero_add] at k1 k2 k3
              go_wp2_with fail
              refine (HG2.out _ HM5.out).mono ?_
              rintro e w6 ⟨rfl, hb6⟩
              have HX6 := Lib.hid (al w6 (.cells #[.int .i64 0, .int .i64 0, .int .i64 0, .int .i64 0] 32))
              have HY6 := Lib.hid (C4.new w6 ⟨0, 0, 0, 0⟩ 32)
              have HM6 := Lib.hid (HM5.out.below (blw hb6 HX6.out)); have HW6 := Lib.hid (HW5.out.trans (Wr.of_below (S := GB g m) (blw hb6 HX6.out))); have HC6 := Lib.hid (HC5.out.below (blw hb6 HX6.out))
              clear hb6 k0 k1 k2 k3
              go_wp2_with fail
              refine (HST2.out _ HM6.out).mono ?_
              rintro e w7 ⟨A7, c7, rfl, ho7, hb7⟩
              have HS7 := Lib.hid ho7.stp.2
              have HW7 := Lib.hid (HW6.out.trans (Wr.of_below (S := GB g m) hb7)); have HC7 := Lib.hid (HC6.out.below hb7); have HY7 := Lib.hid (HY6.out.below hb7)
              clear ho7 hb7
              generalize w6.heap.size = tc at HY6 HY7 ⊢
              go_wp2_with fail
              refine (HAT2.out _ _ _ HS7.out).mono ?_
              rintro e w8 ⟨rfl, hb8⟩
              have HW8 := Lib.hid (HW7.out.trans (Wr.of_below (S := GB g m) hb8)); have HC8 := Lib.hid (HC7.out.below hb8); have HY8 := Lib.hid (HY7.out.below hb8)
              clear hb8
              obtain ⟨k0, k1, k2, k3⟩ := HC8.out
              rw [Nat.zero_add] at k1 k2 k3
              obtain ⟨y0, y1, y2, y3⟩ := HY8.out
              rw [Nat.zero_add] at y1 y2 y3
              go_wp2_with fail
              refine (HK.out _).mono ?_
              rintro e w' ⟨rfl, hw⟩
              have HWX := Lib.hid (HW8.out.trans (Wr.of_below (S := GB g m) hw))
              clear hw
              go_wp2
              go_ret
              refine ⟨?_, below_wr HB1.out HWX.out HGM.out.1 HGM.out.2⟩
              show Ending.returned (.bool (!decide (s.fm < to))) = _
              rw [decide_eq_false (by omega : ¬ s.fm < to)]
              rfl
          · have hv2 : v' = v := by rw [hvv]; unfold inW; rw [if_neg (by omega)]; omega
            subst hv2
            have g1 : decide (to ≤ t) = false := decide_eq_false q1
            have g2 : ¬ t ≥ to := q1
            clear hvv
            obtain ⟨k0, k1, k2, k3⟩ := HC4.out
            rw [Nat.zero_add] at k1 k2 k3
            go_wp2_with fail
            refine (HAT.out _ _ _ HS4.out).mono ?_
            rintro e w5 ⟨rfl, hb5⟩
            have HM5 := Lib.hid (HM4.out.below hb5); have HW5 := Lib.hid (HW4.out.trans (Wr.of_below (S := GB g m) hb5)); have HC5 := Lib.hid (HC4.out.below hb5)
            clear hb5 k0 k1 k2 k3
            obtain ⟨k0, k1, k2, k3⟩ := HC5.out
            rw [Nat.zero_add] at k1 k2 k3
            go_wp2_with fail
            refine (HG2.out _ HM5.out).mono ?_
            rintro e w6 ⟨rfl, hb6⟩
            have HX6 := Lib.hid (al w6 (.cells #[.int .i64 0, .int .i64 0, .int .i64 0, .int .i64 0] 32))
            have HY6 := Lib.hid (C4.new w6 ⟨0, 0, 0, 0⟩ 32)
            have HM6 := Lib.hid (HM5.out.below (blw hb6 HX6.out)); have HW6 := Lib.hid (HW5.out.trans (Wr.of_below (S := GB g m) (blw hb6 HX6.out))); have HC6 := Lib.hid (HC5.out.below (blw hb6 HX6.out))
            clear hb6 k0 k1 k2 k3
            go_wp2_with fail
            refine (HST2.out _ HM6.out).mono ?_
            rintro e w7 ⟨A7, c7, rfl, ho7, hb7⟩
            have HS7 := Lib.hid ho7.stp.2
            have HW7 := Lib.hid (HW6.out.trans (Wr.of_below (S := GB g m) hb7)); have HC7 := Lib.hid (HC6.out.below hb7); have HY7 := Lib.hid (HY6.out.below hb7)
            clear ho7 hb7
            generalize w6.heap.size = tc at HY6 HY7 ⊢
            go_wp2_with fail
            refine (HAT2.out _ _ _ HS7.out).mono ?_
            rintro e w8 ⟨rfl, hb8⟩
            have HW8 := Lib.hid (HW7.out.trans (Wr.of_below (S := GB g m) hb8)); have HC8 := Lib.hid (HC7.out.below hb8); have HY8 := Lib.hid (HY7.out.below hb8)
            clear hb8
            obtain ⟨k0, k1, k2, k3⟩ := HC8.out
            rw [Nat.zero_add] at k1 k2 k3
            obtain ⟨y0, y1, y2, y3⟩ := HY8.out
            rw [Nat.zero_add] at y1 y2 y3
            go_wp2_with fail
            refine (HK.out _).mono ?_
            rintro e w' ⟨rfl, hw⟩
            have HWX := Lib.hid (HW8.out.trans (Wr.of_below (S := GB g m) hw))
            clear hw
            go_wp2
            go_ret
            refine ⟨?_, below_wr HB1.out HWX.out HGM.out.1 HGM.out.2⟩
            show Ending.returned (.bool (!decide (s.fm < to))) = _
            rw [decide_eq_false (by omega : ¬ s.fm < to)]
            rfl
        · obtain rfl : s = s' := by rw [HF.out] at a; injection a
          clear a
          have hok := HI.out.ok s (fnd_some HF.out).1
          have hfs : fndS id (insS ⟨s.id, s.fm, to, s.nd⟩ (remS id L)) = some ⟨s.id, s.fm, to, s.nd⟩ := by
            have hid := (fnd_some HF.out).2
            rw [fnd_ins (rise_rem HI.out.rise) (by have := hok.id; show 0 < s.id; omega) (by show fndS s.id (remS id L) = none; rw [fnd_rem HI.out.rise, if_pos hid])]
            rw [if_pos hid.symm]
          clear hok
          have HST2 := Lib.hid fun (W : World) (hb : BookM W g m N F' (insS ⟨s.id, s.fm, to, s.nd⟩ (remS id L))) => steps_any W g m N F' (insS ⟨s.id, s.fm, to, s.nd⟩ (remS id L)) hP (by have := (HI.out.cut HF.out c2 c1 hP hv).len; omega) hb
          have HG2 := Lib.hid fun (W : World) (hb : BookM W g m N F' (insS ⟨s.id, s.fm, to, s.nd⟩ (remS id L))) => get_any id wid W g m N F' (insS ⟨s.id, s.fm, to, s.nd⟩ (remS id L)) hb
          rw [get_some (L := insS ⟨s.id, s.fm, to, s.nd⟩ (remS id L)) (id := id) (s := ⟨s.id, s.fm, to, s.nd⟩) hfs] at HG2
          have HAT2 := Lib.hid fun (A : Option Addr) (d : Nat) (W : World) (hs : Stp.Stp W A d F') => at_any F' t A F'.length d rfl W hs
          rw [atV_prof hP htb, hv t htb.1] at HAT2
          obtain ⟨v, hve⟩ : ∃ v, valF 0 F t = v := ⟨_, rfl⟩
          obtain ⟨v', hvv⟩ : ∃ v', v + inW to s.to s.nd t = v' := ⟨_, rfl⟩
          have hvb := HI.out.prof.bd htb.1
          have hvb2 := hP.bd htb.1
          rw [hv t htb.1] at hvb2
          rw [hve, hvv] at HAT2
          rw [hve, hvv] at hvb2
          rw [hve] at HAT hvb
          have hvv := hvv.symm
          clear hve
          clear hfs
          clear hP hv HSA HSTF HCU HG1
          by_cases q1 : to ≤ t
          · by_cases q2 : s.fm ≤ t
            · by_cases q3 : t < s.to
              · have hv2 : v' = v + s.nd := by rw [hvv]; unfold inW; rw [if_pos (by omega)]
                subst hv2
                clear hvv
                obtain ⟨k0, k1, k2, k3⟩ := HC4.out
                rw [Nat.zero_add] at k1 k2 k3
                go_wp2_with fail
                refine (HAT.out _ _ _ HS4.out).mono ?_
                rintro e w5 ⟨rfl, hb5⟩
                have HM5 := Lib.hid (HM4.out.below hb5); have HW5 := Lib.hid (HW4.out.trans (Wr.of_below (S := GB g m) hb5)); have HC5 := Lib.hid (HC4.out.below hb5)
                clear hb5 k0 k1 k2 k3
                obtain ⟨k0, k1, k2, k3⟩ := HC5.out
                rw [Nat.zero_add] at k1 k2 k3
                go_wp2_with fail
                refine (HG2.out _ HM5.out).mono ?_
                rintro e w6 ⟨rfl, hb6⟩
                have HX6 := Lib.hid (al w6 (.cells #[.int .i64 s.id, .int .i64 s.fm, .int .i64 to, .int .i64 s.nd] 32))
                have HY6 := Lib.hid (C4.new w6 ⟨s.id, s.fm, to, s.nd⟩ 32)
                have HM6 := Lib.hid (HM5.out.below (blw hb6 HX6.out)); have HW6 := Lib.hid (HW5.out.trans (Wr.of_below (S := GB g m) (blw hb6 HX6.out))); have HC6 := Lib.hid (HC5.out.below (blw hb6 HX6.out))
                clear hb6 k0 k1 k2 k3
                go_wp2_with fail
                refine (HST2.out _ HM6.out).mono ?_
                rintro e w7 ⟨A7, c7, rfl, ho7, hb7⟩
                have HS7 := Lib.hid ho7.stp.2
                have HW7 := Lib.hid (HW6.out.trans (Wr.of_below (S := GB g m) hb7)); have HC7 := Lib.hid (HC6.out.below hb7); have HY7 := Lib.hid (HY6.out.below hb7)
                clear ho7 hb7
                generalize w6.heap.size = tc at HY6 HY7 ⊢
                go_wp2_with fail
                refine (HAT2.out _ _ _ HS7.out).mono ?_
                rintro e w8 ⟨rfl, hb8⟩
                have HW8 := Lib.hid (HW7.out.trans (Wr.of_below (S := GB g m) hb8)); have HC8 := Lib.hid (HC7.out.below hb8); have HY8 := Lib.hid (HY7.out.below hb8)
                clear hb8
                obtain ⟨k0, k1, k2, k3⟩ := HC8.out
                rw [Nat.zero_add] at k1 k2 k3
                obtain ⟨y0, y1, y2, y3⟩ := HY8.out
                rw [Nat.zero_add] at y1 y2 y3
                go_wp2_with fail
                refine (HK.out _).mono ?_
                rintro e w' ⟨rfl, hw⟩
                have HWX := Lib.hid (HW8.out.trans (Wr.of_below (S := GB g m) hw))
                clear hw
                go_wp2
                go_ret
                exact ⟨rfl, below_wr HB1.out HWX.out HGM.out.1 HGM.out.2⟩
              · have hv2 : v' = v := by rw [hvv]; unfold inW; rw [if_neg (by omega)]; omega
                subst hv2
                clear hvv
                obtain ⟨k0, k1, k2, k3⟩ := HC4.out
                rw [Nat.zero_add] at k1 k2 k3
                go_wp2_with fail
                refine (HAT.out _ _ _ HS4.out).mono ?_
                rintro e w5 ⟨rfl, hb5⟩
                have HM5 := Lib.hid (HM4.out.below hb5); have HW5 := Lib.hid (HW4.out.trans (Wr.of_below (S := GB g m) hb5)); have HC5 := Lib.hid (HC4.out.below hb5)
                clear hb5 k0 k1 k2 k3
                obtain ⟨k0, k1, k2, k3⟩ := HC5.out
                rw [Nat.zero_add] at k1 k2 k3
                go_wp2_with fail
                refine (HG2.out _ HM5.out).mono ?_
                rintro e w6 ⟨rfl, hb6⟩
                have HX6 := Lib.hid (al w6 (.cells #[.int .i64 s.id, .int .i64 s.fm, .int .i64 to, .int .i64 s.nd] 32))
                have HY6 := Lib.hid (C4.new w6 ⟨s.id, s.fm, to, s.nd⟩ 32)
                have HM6 := Lib.hid (HM5.out.below (blw hb6 HX6.out)); have HW6 := Lib.hid (HW5.out.trans (Wr.of_below (S := GB g m) (blw hb6 HX6.out))); have HC6 := Lib.hid (HC5.out.below (blw hb6 HX6.out))
                clear hb6 k0 k1 k2 k3
                go_wp2_with fail
                refine (HST2.out _ HM6.out).mono ?_
                rintro e w7 ⟨A7, c7, rfl, ho7, hb7⟩
                have HS7 := Lib.hid ho7.stp.2
                have HW7 := Lib.hid (HW6.out.trans (Wr.of_below (S := GB g m) hb7)); have HC7 := Lib.hid (HC6.out.below hb7); have HY7 := Lib.hid (HY6.out.below hb7)
                clear ho7 hb7
                generalize w6.heap.size = tc at HY6 HY7 ⊢
                go_wp2_with fail
                refine (HAT2.out _ _ _ HS7.out).mono ?_
                rintro e w8 ⟨rfl, hb8⟩
                have HW8 := Lib.hid (HW7.out.trans (Wr.of_below (S := GB g m) hb8)); have HC8 := Lib.hid (HC7.out.below hb8); have HY8 := Lib.hid (HY7.out.below hb8)
                clear hb8
                obtain ⟨k0, k1, k2, k3⟩ := HC8.out
                rw [Nat.zero_add] at k1 k2 k3
                obtain ⟨y0, y1, y2, y3⟩ := HY8.out
                rw [Nat.zero_add] at y1 y2 y3
                go_wp2_with fail
                refine (HK.out _).mono ?_
                rintro e w' ⟨rfl, hw⟩
                have HWX := Lib.hid (HW8.out.trans (Wr.of_below (S := GB g m) hw))
                clear hw
                go_wp2
                go_ret
                exact ⟨rfl, below_wr HB1.out HWX.out HGM.out.1 HGM.out.2⟩
            · exfalso; omega
          · have hv2 : v' = v := by rw [hvv]; unfold inW; rw [if_neg (by omega)]; omega
            subst hv2
            have g1 : decide (to ≤ t) = false := decide_eq_false q1
            have g2 : ¬ t ≥ to := q1
            clear hvv
            obtain ⟨k0, k1, k2, k3⟩ := HC4.out
            rw [Nat.zero_add] at k1 k2 k3
            go_wp2_with fail
            refine (HAT.out _ _ _ HS4.out).mono ?_
            rintro e w5 ⟨rfl, hb5⟩
            have HM5 := Lib.hid (HM4.out.below hb5); have HW5 := Lib.hid (HW4.out.trans (Wr.of_below (S := GB g m) hb5)); have HC5 := Lib.hid (HC4.out.below hb5)
            clear hb5 k0 k1 k2 k3
            obtain ⟨k0, k1, k2, k3⟩ := HC5.out
            rw [Nat.zero_add] at k1 k2 k3
            go_wp2_with fail
            refine (HG2.out _ HM5.out).mono ?_
            rintro e w6 ⟨rfl, hb6⟩
            have HX6 := Lib.hid (al w6 (.cells #[.int .i64 s.id, .int .i64 s.fm, .int .i64 to, .int .i64 s.nd] 32))
            have HY6 := Lib.hid (C4.new w6 ⟨s.id, s.fm, to, s.nd⟩ 32)
            have HM6 := Lib.hid (HM5.out.below (blw hb6 HX6.out)); have HW6 := Lib.hid (HW5.out.trans (Wr.of_below (S := GB g m) (blw hb6 HX6.out))); have HC6 := Lib.hid (HC5.out.below (blw hb6 HX6.out))
            clear hb6 k0 k1 k2 k3
            go_wp2_with fail
            refine (HST2.out _ HM6.out).mono ?_
            rintro e w7 ⟨A7, c7, rfl, ho7, hb7⟩
            have HS7 := Lib.hid ho7.stp.2
            have HW7 := Lib.hid (HW6.out.trans (Wr.of_below (S := GB g m) hb7)); have HC7 := Lib.hid (HC6.out.below hb7); have HY7 := Lib.hid (HY6.out.below hb7)
            clear ho7 hb7
            generalize w6.heap.size = tc at HY6 HY7 ⊢
            go_wp2_with fail
            refine (HAT2.out _ _ _ HS7.out).mono ?_
            rintro e w8 ⟨rfl, hb8⟩
            have HW8 := Lib.hid (HW7.out.trans (Wr.of_below (S := GB g m) hb8)); have HC8 := Lib.hid (HC7.out.below hb8); have HY8 := Lib.hid (HY7.out.below hb8)
            clear hb8
            obtain ⟨k0, k1, k2, k3⟩ := HC8.out
            rw [Nat.zero_add] at k1 k2 k3
            obtain ⟨y0, y1, y2, y3⟩ := HY8.out
            rw [Nat.zero_add] at y1 y2 y3
            go_wp2_with fail
            refine (HK.out _).mono ?_
            rintro e w' ⟨rfl, hw⟩
            have HWX := Lib.hid (HW8.out.trans (Wr.of_below (S := GB g m) hw))
            clear hw
            go_wp2
            go_ret
            exact ⟨rfl, below_wr HB1.out HWX.out HGM.out.1 HGM.out.2⟩

namespace bookCuts
open Go.ChangeShapes Go.WideShapes Go.ChangeAt Go.RowKit
theorem own : ownKnob Try.prog.godebug = none := by kernel_rfl
theorem laidOut : laidOutB Try.prog = true := by kernel_rfl

set_option maxRecDepth 100000 in
theorem lifted (os : Os) (started : os.Started) (H : Type) (enc : TypeId × Value → H) :
    ReturnsInHanded {} Try.checked os 7 .any (Rows.bookCutsSpec.pre6 enc Try.prog Try.f7 Rows.bookCutsRow.domain false) (Rows.bookCutsSpec.post enc Try.prog Try.f7 false true false false) := by
  refine returnsInHanded_of_change (C := Try.checked) own started (by kernel_rfl) Try.func7
    (ChangeSpec.witness6 (enc := enc) (C := Try.checked) false ⟨#[], #[.int .u8 0, .slice none 0 0, .int .i64 0, .int .i64 0, .int .i64 0], []⟩ 8 (by kernel_rfl) (by kernel_rfl) (by kernel_rfl) (by kernel_rfl)) ?_
  intro W base args ds gs before hval0 hW hcnd _
  have hval : ∀ (j : Nat) t v, Try.f7.params[j]? = some t → args[j]? = some v → Value.okWide Try.prog W .any base t v := hval0
  have hW' := hW
  obtain ⟨p, q, hA0, hV, rfl, hfz, hnd⟩ := hW
  have hA : DataW.TrodAll enc Try.prog W 0 (fun _ => true) true Try.f7.params.toList args.toList ds p := hA0
  rw [Try.params7] at hA hval
  obtain ⟨v0, vs0, d0, ds0, p0, q0, hargs, rfl, rfl, h0, r0⟩ := trodAll_cons hA
  obtain ⟨v1, vs1, d1, ds1, p1, q1, rfl, rfl, rfl, h1, r1⟩ := trodAll_cons r0
  obtain ⟨v2, vs2, d2, ds2, p2, q2, rfl, rfl, rfl, h2, r2⟩ := trodAll_cons r1
  obtain ⟨v3, vs3, d3, ds3, p3, q3, rfl, rfl, rfl, h3, r3⟩ := trodAll_cons r2
  obtain ⟨v4, vs4, d4, ds4, p4, q4, rfl, rfl, rfl, h4, r4⟩ := trodAll_cons r3
  obtain ⟨rfl, rfl, rfl⟩ := trodAll_nil r4
  obtain rfl : args = #[v0, v1, v2, v3, v4] := by cases args; simp_all
  obtain ⟨rfl, rfl⟩ := trodVars_none hV
  obtain ⟨a0, rfl, rfl, rfl, w0⟩ := open_int Try.underlying5 (hval 0 5 v0 rfl rfl) h0
  have k1 := h1
  have lt1 : ∀ x ∈ p1, x.block < W.heap.size := by obtain ⟨m, hm⟩ := k1; exact DataW.trod_lt m _ _ _ hm
  obtain ⟨A1, l1, c1, e1⟩ := okWide_slice Try.underlying22 (hval 1 22 v1 rfl rfl)
  obtain ⟨fuel1, hf1⟩ := h1
  rw [show v1.cells.toList = [v1] from by rw [e1]; rfl] at hf1
  clear e1 A1 l1 c1
  obtain ⟨A1, c1, z1, rfl, w1⟩ := Bk.dos_arg hf1
  obtain ⟨a2, rfl, rfl, rfl, w2⟩ := open_int Try.underlying3 (hval 2 3 v2 rfl rfl) h2
  obtain ⟨a3, rfl, rfl, rfl, w3⟩ := open_int Try.underlying3 (hval 3 3 v3 rfl rfl) h3
  obtain ⟨a4, rfl, rfl, rfl, w4⟩ := open_int Try.underlying3 (hval 4 3 v4 rfl rfl) h4
  clear hA0 hval0
  refine (walk_BookCuts W a0 w0 A1 c1 z1 w1 a2 w2 a3 a4).mono fun e W' ⟨he, bel⟩ => ?_
  subst he
  exact ⟨_, rfl, _, _, _, [], _, [], hW', trodAll_mk1 (shut_bool Try.underlying4 _), (trodAll_cons_mk (shut_int Try.underlying5 w0) (trodAll_cons_mk (Below.trod laidOut (by kernel_rfl) (of_decide_eq_true (by kernel_rfl)) k1 bel lt1) (trodAll_cons_mk (shut_int Try.underlying3 w2) (trodAll_cons_mk (shut_int Try.underlying3 w3) (trodAll_cons_mk (shut_int Try.underlying3 w4) trodAll_mk0))))), rfl, bel.frame _, fun h => by cases h⟩

theorem over : Rows.bookCutsRow.holds Try.pinned (OpenSpec.ofChange Rows.bookCutsSpec) :=
  OpenClaim.holds_of_wide 7 Try.f7 rfl rfl rfl rfl rfl rfl rfl ⟨rfl, rfl, rfl, rfl, rfl⟩ rfl rfl rfl rfl rfl (by kernel_rfl) Try.func7 (by kernel_rfl)
    (of_decide_eq_true (by kernel_rfl)) (by unfold Func.isWrapper; first | (rw [if_pos (by decide +kernel)]; kernel_rfl) | (rw [if_neg (by decide +kernel)]; exact ⟨rfl, rfl⟩))
    (fun os started H enc _ => lifted os started H enc)

theorem proved : Rows.BookCutsSaid := over
#print axioms proved
end bookCuts
end Go.Proofs.Ytapojmniokdjfaa

