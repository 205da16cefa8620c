/- BookOuts: for any numbers, and any list of things that are done, the law returns true, and all read afterwards as before. No condition. -/
import Derived.Test.YtapojmniokdjfaaRows
import Derived.Test.YtapojmniokdjfaaBkDone
import Derived.WalkKit
import Derived.ProofKit
import Derived.OpenShut
import Derived.ShutString
import Derived.ChangeOld
import Derived.Below
namespace Go.Proofs.Ytapojmniokdjfaa
open Go.ChangeShapes Go.WideShapes Go.ChangeAt Go.RowKit
open Stp (blw al dr drN kp Stp.below RetP at_any rsame_any sameB sameB_iff inW)
open Bk
set_option linter.unusedVariables false
theorem below_wr {w w1 w2 : World} {g m : Nat} (hb : Below w.heap.size w w1) (hw : Wr (GB g m) w1 w2) (hg : w.heap.size ≤ g) (hm : w.heap.size ≤ m) : Below w.heap.size w w2 := hb.trans (hw.below hb.size (by rintro b (rfl | rfl) <;> assumption))
theorem out_is {N : Int} {F F' : List StepD} {L L' : List SlotD} {a b k : Int} {ids : List Int} (hL : RiseI 0 L) (h : OutP N F L a b k F' L' ids) : L' = remA ids L := by
  refine rise_uniq h.rise (rise_sub hL List.filter_sublist) fun s => ?_
  rw [h.mem s]
  unfold remA
  simp [List.mem_filter]
theorem remA_take {J : List Int} {L : List SlotD} {i : Nat} {s : SlotD} (hs : L[i]? = some s) : remA J (L.take (i + 1)) = if s.id ∈ J then remA J (L.take i) else remA J (L.take i) ++ [s] := by
  rw [List.take_add_one, hs, Option.toList_some]
  unfold remA
  rw [List.filter_append]
  by_cases h : s.id ∈ J
  · rw [if_pos h, List.filter_cons, if_neg (by simp [h]), List.filter_nil, List.append_nil]
  · rw [if_neg h, List.filter_cons, if_pos (by simp [h]), List.filter_nil]
theorem remA_at {J : List Int} {L : List SlotD} {i : Nat} {s : SlotD} (hs : L[i]? = some s) (h : s.id ∉ J) : (remA J L)[(remA J (L.take i)).length]? = some s := by
  have hd : L = L.take i ++ s :: L.drop (i + 1) := by
    have h1 := List.take_append_drop i L
    rw [List.drop_eq_getElem_cons (List.getElem?_eq_some_iff.1 hs).1, (List.getElem?_eq_some_iff.1 hs).2] at h1
    exact h1.symm
  have e : remA J L = remA J (L.take i) ++ s :: remA J (L.drop (i + 1)) := by
    conv => lhs; rw [hd]
    unfold remA
    rw [List.filter_append, List.filter_cons, if_pos (by simp [h])]
  rw [e, List.getElem?_append_right (Nat.le_refl _), Nat.sub_self]; rfl

set_option maxRecDepth 100000 in
set_option maxHeartbeats 12800000 in
theorem walk_BookOuts (w : World) (n : Int) (wn : (Lit.int .u8 n).wf = true) (A : Option Addr) (c : Nat) (l : List DoD) (h : Dos w A c l) (fr to kk : Int) :
    Calls Try.prog 6 #[.int .u8 n, .slice A l.length c, .int .i64 fr, .int .i64 to, .int .i64 kk] w fun e w' => e = .returned (.bool true) ∧ Below w.heap.size w w' := by
  have HK := Lib.hid known_any
  have hnb := u8b wn
  obtain ⟨ln, hln⟩ : ∃ ln, l.length = ln := ⟨_, rfl⟩
  have hlm : ln ≤ 9223372036854775807 := by rw [← hln]; exact Nat.le_trans h.cap (by have := h.top; simpa [maxLen] using this)
  rw [hln]
  clear wn
  by_cases h1 : 40 < ln
  · clear h hln
    go_enter Try.func6, Try.ntmps6
    go_wp2_with fail
    refine (HK.out _).mono ?_
    rintro e w' ⟨rfl, hw⟩
    go_wp2
    go_ret
    exact ⟨rfl, hw⟩
  have hl40 : ln ≤ 40 := by omega
  obtain ⟨N, hN⟩ : ∃ N, 1 + n = N := ⟨_, rfl⟩
  have HN1 : Hid (1 ≤ N ∧ N ≤ 10000) := Lib.hid (by omega)
  have HN := Lib.hid fun (W : World) => newb_yes N HN1.out W
  have HD := Lib.hid h
  have HLN := Lib.hid hln
  clear h hln
  go_enter Try.func6, Try.ntmps6
  go_wp2_with fail
  try rw [hN]
  refine (HN.out _).mono ?_
  rintro e w1 ⟨g, m, rfl, hB1, hg, hm, hb1⟩
  have HB1 := Lib.hid hb1; have HM1 := Lib.hid hB1; have HGM := Lib.hid (And.intro hg hm)
  clear hb1 hB1 hg hm hN
  go_wp2_with fail
  go_loopw [13] (fun vi wr => ∃ (i : Nat) (F : List StepD) (L : List SlotD) (T : List Int), i ≤ ln ∧ vi = .int .i64 i ∧ Hid (BkI N F L T i) ∧ Hid (∀ s ∈ L, (Lit.int .i64 s.id).wf = true) ∧ Hid (BookM wr g m N F L) ∧ Hid (Wr (GB g m) w1 wr)) (fun vi _ => ln - (intOf vi).toNat)
  case atStart => exact ⟨0, _, _, [], Nat.zero_le _, rfl, Lib.hid (BkI.new HN1.out), Lib.hid (fun s hs => by cases hs), HM1, Lib.hid (Wr.refl _ _)⟩
  case round =>
    obtain ⟨i, F, L, T, hi, rfl, HI, HWF, HM, HW⟩ := hrel
    by_cases hlt : i < ln
    · obtain ⟨d, hd⟩ : ∃ d, l[i]? = some d := ⟨_, List.getElem?_eq_getElem (by rw [HLN.out]; exact hlt)⟩
      obtain ⟨b, off, eA, c0, c1, c2, c3, c4⟩ := (HD.out.below (below_wr HB1.out HW.out HGM.out.1 HGM.out.2)).cells i d hd
      subst eA
      have HDN := Lib.hid (done_any d (HD.out.wf d (List.mem_of_getElem? hd)) wr g m N F L T i HI.out (by omega) HWF.out HM.out)
      clear hd
      go_wp2_with fail
      refine HDN.out.mono ?_
      rintro e w2 ⟨A2, c2', ids, e0, F', L', rfl, hO, _, _, hB2, hW2⟩
      obtain ⟨T', hI'⟩ := hO.inv
      have HI' := Lib.hid hI'; have HWF' := Lib.hid hO.wf; have HM' := Lib.hid hB2; have HW' := Lib.hid (HW.out.trans hW2)
      clear hO hI' hB2 hW2
      go_wp2
      refine ⟨⟨i + 1, F', L', T', by omega, by go_num, HI', HWF', HM', HW'⟩, ?_⟩
      simp [intOf]; omega
    · obtain rfl : i = ln := by omega
      have HSLF := Lib.hid fun (W : World) (hb : BookM W g m N F L) => slots_any W g m N F L HI.out.rise (by have := HI.out.ll; omega) hb
      have hL40 : L.length ≤ 40 := by have := HI.out.ll; omega
      clear hlt HD
      go_wp2_with fail
      refine (HSLF.out _ HM.out).mono ?_
      rintro e w2 ⟨A2, c2, rfl, hs2, hb2⟩
      have HS2 := Lib.hid hs2
      have HM2 := Lib.hid (HM.out.below hb2); have HW2 := Lib.hid (HW.out.trans (Wr.of_below (S := GB g m) hb2))
      clear hs2 hb2
      cases ho : outB N fr to kk
      · have HO := Lib.hid (out_no fr to kk w2 g m N F L T i HI.out (by omega) HWF.out HM2.out ho)
        have HLA := Lib.hid fun (A B : Option Addr) (x y : Nat) (W : World) (hs : Slt W A x L) (hs' : Slt W B y L) => sameL_any L L A B L.length L.length x y rfl rfl W hs hs'
        rw [show sameL L L = true from sameL_iff.2 rfl] at HLA
        clear ho
        go_wp2_with fail
        refine HO.out.mono ?_
        rintro e w3 ⟨rfl, hB, hW⟩
        have HM3 := Lib.hid hB; have HW3 := Lib.hid (HW2.out.trans hW); have HS3 := Lib.hid (HS2.out.wr HM2.out hW)
        clear hB hW
        go_wp2_with fail
        refine (HSLF.out _ HM3.out).mono ?_
        rintro e w4 ⟨A4, c4, rfl, hs4, hb4⟩
        have HS4 := Lib.hid hs4; have HS3b := Lib.hid (HS3.out.below hb4)
        have HW4 := Lib.hid (HW3.out.trans (Wr.of_below (S := GB g m) hb4))
        clear hs4 hb4
        go_wp2_with fail
        refine (HLA.out _ _ _ _ _ HS4.out HS3b.out).mono ?_
        rintro e w5 ⟨rfl, hb5⟩
        have HW5 := Lib.hid (HW4.out.trans (Wr.of_below (S := GB g m) hb5))
        clear hb5
        go_wp2_with fail
        refine (HK.out _).mono ?_
        rintro e w' ⟨rfl, hw⟩
        have HWX := Lib.hid (HW5.out.trans (Wr.of_below (S := GB g m) hw))
        clear hw
        go_wp2
        go_ret
        exact ⟨rfl, below_wr HB1.out HWX.out HGM.out.1 HGM.out.2⟩
      · have HO := Lib.hid (out_yes fr to kk w2 g m N F L T i HI.out (by omega) HWF.out HM2.out ho)
        have hk1 : 1 ≤ kk := by
          unfold outB at ho
          simp only [Bool.and_eq_true, decide_eq_true_eq] at ho
          exact ho.2.1
        clear ho
        go_wp2_with fail
        refine HO.out.mono ?_
        rintro e w3 ⟨A3, c3, F', L', ids, rfl, hI3, hP, hB, hW⟩
        have HIT := Lib.hid (its_own hI3).2
        have HP := Lib.hid hP
        have HI' := Lib.hid (HI.out.out hk1 hP)
        have HE := Lib.hid (out_is HI.out.rise hP)
        have hlen := hP.len
        have HM3 := Lib.hid hB; have HW3 := Lib.hid (HW2.out.trans hW); have HS3 := Lib.hid (HS2.out.wr HM2.out hW)
        have HSL2 := Lib.hid fun (W : World) (hb : BookM W g m N F' L') => slots_any W g m N F' L' HI'.out.rise (by have := HI'.out.ll; omega) hb
        have HST2 := Lib.hid fun (W : World) (hb : BookM W g m N F' L') => steps_any W g m N F' L' HI'.out.prof (by have := HI'.out.len; omega) hb
        have HCH := Lib.hid fun (A : Option Addr) (x : Nat) (W : World) (hs : Stp.Stp W A x F') => Stp.check_any F' A F'.length x rfl W hs
        rw [show chkE F' = 0 from by unfold chkE; rw [if_pos (chkD_prof.2 HI'.out.prof)]] at HCH
        clear hI3 hP hB hW
        go_wp2_with fail
        refine (HSL2.out _ HM3.out).mono ?_
        rintro e w4 ⟨A4, c4, rfl, hs4, hb4⟩
        have HS4 := Lib.hid hs4; have HS3b := Lib.hid (HS3.out.below hb4); have HIT4 := Lib.hid (HIT.out.below hb4)
        have HM4 := Lib.hid (HM3.out.below hb4); have HW4 := Lib.hid (HW3.out.trans (Wr.of_below (S := GB g m) hb4))
        clear hs4 hb4
        obtain ⟨nw, hnw⟩ : ∃ nw, L.length = nw := ⟨_, rfl⟩
        obtain ⟨ng, hng⟩ : ∃ ng, ids.length = ng := ⟨_, rfl⟩
        obtain ⟨nn, hnn⟩ : ∃ nn, L'.length = nn := ⟨_, rfl⟩
        have HNW := Lib.hid hnw; have HNG := Lib.hid hng; have HNN := Lib.hid hnn
        rw [hnw, hng, hnn] at hlen
        rw [hnw] at hL40
        rw [hnw, hng, hnn]
        have HLEN := Lib.hid hlen
        have hng1 : ng ≤ 40 := by omega
        have hnn1 : nn ≤ 40 := by omega
        clear hnw hng hnn hlen
        go_wp2_with fail
        go_loopw [18, 19] (fun vn vi wq => ∃ q p : Nat, q ≤ nw ∧ p ≤ nn ∧ vi = .int .i64 q ∧ vn = .int .i64 p ∧ Hid ((remA ids (L.take q)).length = p) ∧ Hid (Below w4.heap.size w4 wq)) (fun _ vi _ => nw - (intOf vi).toNat)
        case atStart => exact ⟨0, 0, Nat.zero_le _, Nat.zero_le _, rfl, rfl, Lib.hid (by rw [List.take_zero]; rfl), Lib.hid (Below.refl _ _)⟩
        case round =>
          obtain ⟨q, p, hq, hp, rfl, rfl, HPL, HQ⟩ := hrel
          by_cases hql : q < nw
          · obtain ⟨b, off, s, eA, hs, _⟩ := (HS3b.out.below HQ.out).lt (k := q) (by rw [HNW.out]; exact hql)
            subst eA
            have HSS := Lib.hid hs
            clear hs
            go_wp2_with fail
            go_loopw [20, 21] (fun vo vj wv => ∃ j : Nat, j ≤ ng ∧ vj = .int .i64 j ∧ vo = .bool (decide (s.id ∈ ids.take j)) ∧ Hid (Below w4.heap.size w4 wv)) (fun _ vj _ => ng - (intOf vj).toNat)
            case atStart => exact ⟨0, Nat.zero_le _, rfl, by simp, HQ⟩
            case round =>
              obtain ⟨j, hj, rfl, rfl, HV⟩ := hrel
              by_cases hjl : j < ng
              · obtain ⟨b2, o2, x, eB, hx, y0⟩ := (HIT4.out.below HV.out).lt (k := j) (by rw [HNG.out]; exact hjl)
                subst eB
                obtain ⟨b3, o3, eA', x0, x1, x2, x3⟩ := (HS3b.out.below HV.out).cells q s HSS.out
                injection eA' with eA'
                injection eA' with eb eo
                subst eb eo
                have htk : ids.take (j + 1) = ids.take j ++ [x] := by rw [List.take_add_one, hx, Option.toList_some]
                have HTK := Lib.hid htk
                clear hx htk
                by_cases h1 : s.id ∈ ids.take j
                · rw [decide_eq_true h1]
                  have HH1 := Lib.hid h1
                  clear h1
                  go_wp2_with fail
                  go_quiet (fail)
                  go_wp2
                  refine ⟨⟨j + 1, by omega, by go_num, by rw [HTK.out, decide_eq_true (List.mem_append.2 (Or.inl HH1.out))], Lib.hid (blw HV.out (drN _ _))⟩, ?_⟩
                  simp [intOf]; omega
                · rw [decide_eq_false h1]
                  have HH1 := Lib.hid h1
                  clear h1
                  by_cases h2 : x = s.id
                  · have hb : (x == s.id) = true := by rw [beq_iff_eq]; exact h2
                    have HH2 := Lib.hid h2
                    clear h2
                    go_wp2_with fail
                    go_quiet (fail)
                    go_wp2
                    refine ⟨⟨j + 1, by omega, by go_num, by rw [HTK.out, decide_eq_true (List.mem_append.2 (Or.inr (by rw [HH2.out]; simp)))], Lib.hid (blw HV.out (drN _ _))⟩, ?_⟩
                    simp [intOf]; omega
                  · have hb : (x == s.id) = false := by rw [beq_eq_false_iff_ne]; exact h2
                    have HH2 := Lib.hid h2
                    clear h2
                    go_wp2_with fail
                    go_quiet (fail)
                    go_wp2
                    refine ⟨⟨j + 1, by omega, by go_num, by rw [HTK.out, decide_eq_false (fun hm => by rcases List.mem_append.1 hm with z | z; exact HH1.out z; simp at z; exact HH2.out z.symm)], Lib.hid (blw HV.out (drN _ _))⟩, ?_⟩
                    simp [intOf]; omega
              · obtain rfl : j = ng := by omega
                rw [List.take_of_length_le (l := ids) (by rw [HNG.out]; exact Nat.le_refl _)]
                have hrt := remA_take (J := ids) HSS.out
                by_cases h1 : s.id ∈ ids
                · rw [decide_eq_true h1]
                  rw [if_pos h1] at hrt
                  have HRT := Lib.hid hrt
                  clear hrt h1
                  go_wp2
                  refine ⟨⟨q + 1, p, by omega, hp, by go_num, rfl, Lib.hid (by rw [HRT.out]; exact HPL.out), HV⟩, ?_⟩
                  simp [intOf]; omega
                · rw [decide_eq_false h1]
                  rw [if_neg h1] at hrt
                  have hat := remA_at HSS.out h1
                  rw [← HE.out, HPL.out] at hat
                  have hpl : p < nn := by rw [← HNN.out]; exact (List.getElem?_eq_some_iff.1 hat).1
                  obtain ⟨b4, o4, eC, z0, z1, z2, z3⟩ := (HS4.out.below HV.out).cells p s hat
                  subst eC
                  obtain ⟨b3, o3, eA', x0, x1, x2, x3⟩ := (HS3b.out.below HV.out).cells q s HSS.out
                  injection eA' with eA'
                  injection eA' with eb eo
                  subst eb eo
                  have HRT := Lib.hid hrt
                  clear hrt h1 hat
                  go_wp2_with fail
                  go_quiet (fail)
                  go_wp2
                  refine ⟨⟨q + 1, p + 1, by omega, by omega, by go_num, by go_num, Lib.hid (by rw [HRT.out, List.length_append, List.length_singleton, HPL.out]), Lib.hid (blw HV.out (drN _ _))⟩, ?_⟩
                  simp [intOf]; omega
          · obtain rfl : q = nw := by omega
            have hpn : p = nn := by rw [← HPL.out, List.take_of_length_le (by rw [HNW.out]; exact Nat.le_refl _), ← HE.out, HNN.out]
            subst hpn
            have hsum : ng + p = q := HLEN.out
            have HM6 := Lib.hid (HM4.out.below HQ.out); have HW6 := Lib.hid (HW4.out.trans (Wr.of_below (S := GB g m) HQ.out))
            clear hql
            have hb9 : (((p : Int) + (ng : Int)) == (q : Int)) = true := by rw [beq_iff_eq]; omega
            go_wp2_with fail
            refine (HST2.out _ HM6.out).mono ?_
            rintro e w7 ⟨A7, c7, rfl, ho7, hb7⟩
            have HS7 := Lib.hid ho7.stp.2
            have HW7 := Lib.hid (HW6.out.trans (Wr.of_below (S := GB g m) hb7))
            clear ho7 hb7
            go_wp2_with fail
            refine (HCH.out _ _ _ HS7.out).mono ?_
            rintro e w8 ⟨rfl, hb8⟩
            have HW8 := Lib.hid (HW7.out.trans (Wr.of_below (S := GB g m) hb8))
            clear hb8
            go_wp2_with fail
            refine (HK.out _).mono ?_
            rintro e w' ⟨rfl, hw⟩
            have HWX := Lib.hid (HW8.out.trans (Wr.of_below (S := GB g m) hw))
            clear hw
            go_wp2
            go_ret
            exact ⟨rfl, below_wr HB1.out HWX.out HGM.out.1 HGM.out.2⟩

namespace bookOuts
open Go.ChangeShapes Go.WideShapes Go.ChangeAt Go.RowKit
theorem own : ownKnob Try.prog.godebug = none := by kernel_rfl
theorem laidOut : laidOutB Try.prog = true := by kernel_rfl

set_option maxRecDepth 100000 in
theorem lifted (os : Os) (started : os.Started) (H : Type) (enc : TypeId × Value → H) :
    ReturnsInHanded {} Try.checked os 6 .any (Rows.bookOutsSpec.pre6 enc Try.prog Try.f6 Rows.bookOutsRow.domain false) (Rows.bookOutsSpec.post enc Try.prog Try.f6 false true false false) := by
  refine returnsInHanded_of_change (C := Try.checked) own started (by kernel_rfl) Try.func6
    (ChangeSpec.witness6 (enc := enc) (C := Try.checked) false ⟨#[], #[.int .u8 0, .slice none 0 0, .int .i64 0, .int .i64 0, .int .i64 0], []⟩ 8 (by kernel_rfl) (by kernel_rfl) (by kernel_rfl) (by kernel_rfl)) ?_
  intro W base args ds gs before hval0 hW hcnd _
  have hval : ∀ (j : Nat) t v, Try.f6.params[j]? = some t → args[j]? = some v → Value.okWide Try.prog W .any base t v := hval0
  have hW' := hW
  obtain ⟨p, q, hA0, hV, rfl, hfz, hnd⟩ := hW
  have hA : DataW.TrodAll enc Try.prog W 0 (fun _ => true) true Try.f6.params.toList args.toList ds p := hA0
  rw [Try.params6] at hA hval
  obtain ⟨v0, vs0, d0, ds0, p0, q0, hargs, rfl, rfl, h0, r0⟩ := trodAll_cons hA
  obtain ⟨v1, vs1, d1, ds1, p1, q1, rfl, rfl, rfl, h1, r1⟩ := trodAll_cons r0
  obtain ⟨v2, vs2, d2, ds2, p2, q2, rfl, rfl, rfl, h2, r2⟩ := trodAll_cons r1
  obtain ⟨v3, vs3, d3, ds3, p3, q3, rfl, rfl, rfl, h3, r3⟩ := trodAll_cons r2
  obtain ⟨v4, vs4, d4, ds4, p4, q4, rfl, rfl, rfl, h4, r4⟩ := trodAll_cons r3
  obtain ⟨rfl, rfl, rfl⟩ := trodAll_nil r4
  obtain rfl : args = #[v0, v1, v2, v3, v4] := by cases args; simp_all
  obtain ⟨rfl, rfl⟩ := trodVars_none hV
  obtain ⟨a0, rfl, rfl, rfl, w0⟩ := open_int Try.underlying5 (hval 0 5 v0 rfl rfl) h0
  have k1 := h1
  have lt1 : ∀ x ∈ p1, x.block < W.heap.size := by obtain ⟨m, hm⟩ := k1; exact DataW.trod_lt m _ _ _ hm
  obtain ⟨A1, l1, c1, e1⟩ := okWide_slice Try.underlying22 (hval 1 22 v1 rfl rfl)
  obtain ⟨fuel1, hf1⟩ := h1
  rw [show v1.cells.toList = [v1] from by rw [e1]; rfl] at hf1
  clear e1 A1 l1 c1
  obtain ⟨A1, c1, z1, rfl, w1⟩ := Bk.dos_arg hf1
  obtain ⟨a2, rfl, rfl, rfl, w2⟩ := open_int Try.underlying3 (hval 2 3 v2 rfl rfl) h2
  obtain ⟨a3, rfl, rfl, rfl, w3⟩ := open_int Try.underlying3 (hval 3 3 v3 rfl rfl) h3
  obtain ⟨a4, rfl, rfl, rfl, w4⟩ := open_int Try.underlying3 (hval 4 3 v4 rfl rfl) h4
  clear hA0 hval0
  refine (walk_BookOuts W a0 w0 A1 c1 z1 w1 a2 a3 a4).mono fun e W' ⟨he, bel⟩ => ?_
  subst he
  exact ⟨_, rfl, _, _, _, [], _, [], hW', trodAll_mk1 (shut_bool Try.underlying4 _), (trodAll_cons_mk (shut_int Try.underlying5 w0) (trodAll_cons_mk (Below.trod laidOut (by kernel_rfl) (of_decide_eq_true (by kernel_rfl)) k1 bel lt1) (trodAll_cons_mk (shut_int Try.underlying3 w2) (trodAll_cons_mk (shut_int Try.underlying3 w3) (trodAll_cons_mk (shut_int Try.underlying3 w4) trodAll_mk0))))), rfl, bel.frame _, fun h => by cases h⟩

theorem over : Rows.bookOutsRow.holds Try.pinned (OpenSpec.ofChange Rows.bookOutsSpec) :=
  OpenClaim.holds_of_wide 6 Try.f6 rfl rfl rfl rfl rfl rfl rfl ⟨rfl, rfl, rfl, rfl, rfl⟩ rfl rfl rfl rfl rfl (by kernel_rfl) Try.func6 (by kernel_rfl)
    (of_decide_eq_true (by kernel_rfl)) (by unfold Func.isWrapper; first | (rw [if_pos (by decide +kernel)]; kernel_rfl) | (rw [if_neg (by decide +kernel)]; exact ⟨rfl, rfl⟩))
    (fun os started H enc _ => lifted os started H enc)

theorem proved : Rows.BookOutsSaid := over
#print axioms proved
end bookOuts
end Go.Proofs.Ytapojmniokdjfaa

