/- DagBare: for any slice of slices of int the law returns true, and it reads afterwards as before. The library's table of 64 numbers is as the card ties it. -/
import Derived.Test.YtaokbjacfdipmaaDoorRows
import Derived.Test.YtaokbjacfdipmaaDoorCards
import Derived.Test.YtaokbjacfdipmaaDoorTie
import Derived.Test.YtaokbjacfdipmaaDoorDagArg
import Derived.Test.YtaokbjacfdipmaaDoorDagGBare
import Derived.WalkKit
import Derived.ProofKit
import Derived.OpenShut
import Derived.ChangeOld
import Derived.Below
import Derived.SevenTiedAt
namespace Go.Proofs.YtaokbjacfdipmaaDoor
open Go.ChangeShapes Go.WideShapes Go.ChangeAt Go.RowKit Go.Lib
set_option linter.unusedVariables false

theorem far_up {E : List (List Int)} (hE : Valid E) {s : Nat} (hs : s < E.length) (u : Nat) : FarP (fro E) [(s : Int)] u ↔ Plus (arc E) s u := by
  unfold FarP
  rw [fro_len]
  constructor
  · rintro ⟨t, h1, h2, h3⟩
    have e : t = s := by simp at h2; omega
    subst e
    exact h3.mono fun x y h => (arc_fro.1 h).2
  · exact fun h => ⟨s, hs, by simp, h.mono fun x y h => arc_fro.2 ⟨hE.arc h, h⟩⟩
theorem filt_same {n : Nat} {p q : Nat → Bool} {P Q : Nat → Prop} (hp : ∀ u, u < n → (p u = true ↔ P u)) (hq : ∀ u, u < n → (q u = true ↔ Q u)) (h : ∀ u, P u ↔ Q u) : num ((List.range n).filter p) = num ((List.range n).filter q) := by
  congr 1
  apply List.filter_congr
  intro u hu
  have hun := List.mem_range.1 hu
  rw [Bool.eq_iff_iff, hp u hun, hq u hun, h]

set_option maxRecDepth 100000 in
set_option maxHeartbeats 1600000 in
theorem walk_DagBare (w : World) (hT : Tab w) (A : Option Addr) (c : Nat) (E : List (List Int)) (h : IRows w A c E) (hz : ∀ l ∈ E, l.length ≤ 140737488355328) :
    Calls Tryd.prog 5 #[.slice A E.length c] w fun e w' => e = .returned (.bool true) ∧ Below w.heap.size w w' := by
  have HT := Lib.hid hT; have H := Lib.hid h; have HZ := Lib.hid hz
  clear hT h hz
  by_cases hbig : 30 < E.length
  · go_enter Tryd.func5, Tryd.ntmps5
    go_wp2_with fail
    refine (long_many E _ _ _ H.out hbig).mono ?_
    rintro e w1 ⟨rfl, rfl⟩
    go_wp2_with fail
    refine (known_any _ HT.out).mono ?_
    rintro e w2 ⟨rfl, hb⟩
    go_wp2
    go_ret
    exact ⟨rfl, hb⟩
  have hn : E.length ≤ 30 := by omega
  clear hbig
  by_cases hs : 100 < sumL E
  · have HS : Hid (decide (100 < sumL E) = true) := Lib.hid (decide_eq_true hs)
    clear hs
    go_enter Tryd.func5, Tryd.ntmps5
    go_wp2_with fail
    refine (long_few E _ _ _ H.out hn HZ.out true HS.out).mono ?_
    rintro e w1 ⟨rfl, rfl⟩
    go_wp2_with fail
    refine (known_any _ HT.out).mono ?_
    rintro e w2 ⟨rfl, hb⟩
    go_wp2
    go_ret
    exact ⟨rfl, hb⟩
  have HS : Hid (decide (100 < sumL E) = false) := Lib.hid (decide_eq_false hs)
  clear hs
  have HLE : Hid (∀ l ∈ E, l.length ≤ 1000) := Lib.hid fun l hl => by have := sumL_mem hl; have := of_decide_eq_false HS.out; omega
  by_cases hE : newE E = 0
  · have HE := Lib.hid hE
    have HV : Hid (Valid E) := Lib.hid (okAll_iff.1 (by
      cases hok : okAll E with
      | true => rfl
      | false => rw [newE_arg hok] at hE; cases hE))
    clear hE
    go_enter Tryd.func5, Tryd.ntmps5
    go_wp2_with fail
    refine (long_few E _ _ _ H.out hn HZ.out false HS.out).mono ?_
    rintro e w1 ⟨rfl, rfl⟩
    go_wp2_with fail
    refine (new_ok E _ rfl _ _ _ H.out hn HLE.out HT.out HE.out).mono ?_
    rintro e w1 ⟨g, rfl, hg, hb1⟩
    have HFL : Hid ((order E).length = E.length) := Lib.hid hg.full
    have HG := Lib.hid hg; have HB1 := Lib.hid hb1
    clear hg hb1
    go_wp2_with fail
    refine (bare_any _ E _ HG.out HV.out hn).mono ?_
    rintro e w2 ⟨A2, c2, rfl, hi2, hb2⟩
    obtain ⟨D, hD⟩ : ∃ D, bareE E = D := ⟨_, rfl⟩
    have hDl : D.length = E.length := by rw [← hD]; exact bare_len E
    have hDn : newE D = 0 := by
      rw [← hD]
      exact newE_ok (okAll_iff.2 (valid_bare E)) (by rw [full_bare HFL.out HV.out]; omega)
    have hDs : ∀ l ∈ D, l.length ≤ 1000 := by
      rw [← hD]
      intro l hl
      obtain ⟨v, _, rfl⟩ := List.mem_map.1 hl
      rw [num_len]
      have := bar_len E v
      omega
    rw [hD] at hi2
    have HD := Lib.hid hD; have HDL := Lib.hid hDl; have HDN := Lib.hid hDn; have HDS := Lib.hid hDs
    have HI2 := Lib.hid hi2; have HG2 := Lib.hid (HG.out.below hb2); have HB2 := Lib.hid (blw HB1.out hb2)
    have HT2 := Lib.hid (HT.out.below HB2.out HT.out.lt)
    clear hi2 hb2 HG HB1 hD hDn hDs hDl
    go_wp2_with fail
    refine (new_ok D _ HDL.out _ _ _ HI2.out hn HDS.out HT2.out HDN.out).mono ?_
    rintro e w3 ⟨h, rfl, hh, hb3⟩
    have HH := Lib.hid hh; have HI3 := Lib.hid (HI2.out.below hb3); have HG3 := Lib.hid (HG2.out.below hb3); have HB3 := Lib.hid (blw HB2.out hb3); have HT3 := Lib.hid (HT2.out.below hb3 HT2.out.lt)
    clear hh hb3 HI2 HG2 HB2 HT2
    go_wp2_with fail
    refine (rbare_any E HFL.out _ _ _ (H.out.below HB3.out) hn HV.out).mono ?_
    rw [HD.out]
    rintro e w4 ⟨A4, c4, rfl, hi4, hb4⟩
    have HI4 := Lib.hid hi4; have HH4 := Lib.hid (HH.out.below hb4); have HI4b := Lib.hid (HI3.out.below hb4); have HG4 := Lib.hid (HG3.out.below hb4); have HB4 := Lib.hid (blw HB3.out hb4); have HT4 := Lib.hid (HT3.out.below hb4 HT3.out.lt)
    clear hi4 hb4 HH HI3 HG3 HB3 HT3
    go_wp2_with fail
    refine (sameL_any D _ _ HDL.out HDL.out _ _ _ _ _ HI4b.out HI4.out).mono ?_
    rintro e w5 ⟨rfl, hb5⟩
    have HH5 := Lib.hid (HH4.out.below hb5); have HI5 := Lib.hid (HI4b.out.below hb5); have HG5 := Lib.hid (HG4.out.below hb5); have HB5 := Lib.hid (blw HB4.out hb5); have HT5 := Lib.hid (HT4.out.below hb5 HT4.out.lt)
    clear hb5 HI4 HH4 HI4b HG4 HB4 HT4
    go_wp2_with fail
    go_loopw [8] (fun vv wr => ∃ v : Nat, v ≤ E.length ∧ vv = .int .i64 v ∧ Hid (Below w5.heap.size w5 wr)) (fun vv _ => E.length - (RowKit.intOf vv).toNat)
    case atStart => exact ⟨0, Nat.zero_le _, rfl, Lib.hid (Below.refl _ _)⟩
    case round =>
      obtain ⟨v, hv, rfl, HB⟩ := hrel
      by_cases hvl : v < E.length
      · have HQ := Lib.hid (blw HB.out (al wr (.cells #[.int .i64 (v : Int)] 3)))
        have HLV := Lib.hid (Ints.lit wr [(v : Int)] (n := 1) (g := wr.heap.size) rfl rfl (by decide))
        go_wp2_with fail
        refine (above_any _ D _ (HH5.out.below HQ.out) (by rw [HDL.out]; exact hn) [(v : Int)] 1 rfl _ _ HLV.out (HT5.out.below HQ.out HT5.out.lt)).mono ?_
        rintro e w6 ⟨p6, A6, c6, hp6, rfl, hi6, hb6⟩
        have HP6 := Lib.hid hp6; have HI6 := Lib.hid (hi6.below (al w6 (.cells #[.int .i64 (v : Int)] 3)))
        have HQ6 := Lib.hid (blw (blw HQ.out hb6) (al w6 (.cells #[.int .i64 (v : Int)] 3)))
        have HLW := Lib.hid (Ints.lit w6 [(v : Int)] (n := 1) (g := w6.heap.size) rfl rfl (by decide))
        clear hp6 hi6 hb6 HQ HLV
        go_wp2_with fail
        refine (above_any _ E _ (HG5.out.below HQ6.out) hn [(v : Int)] 1 rfl _ _ HLW.out (HT5.out.below HQ6.out HT5.out.lt)).mono ?_
        rintro e w7 ⟨p7, A7, c7, hp7, rfl, hi7, hb7⟩
        have e7 := filt_same (P := FarP (fro D) [(v : Int)]) (Q := FarP (fro E) [(v : Int)]) (n := E.length) (by rw [← HDL.out]; exact HP6.out) hp7 (fun u => by
          rw [far_up HV.out hvl u, ← plus_bare HFL.out HV.out, HD.out, far_up (by rw [← HD.out]; exact valid_bare E) (by rw [HDL.out]; exact hvl) u])
        rw [← HDL.out] at e7
        have HI7 : Hid (Ints w7 A7 c7 (num (List.filter p6 (List.range D.length)))) := Lib.hid (by rw [e7]; rw [HDL.out]; exact hi7)
        have hl7 : (num (List.filter p7 (List.range E.length))).length = (num (List.filter p6 (List.range D.length))).length := by rw [e7, HDL.out]
        rw [hl7]
        have HI6b := Lib.hid (HI6.out.below hb7)
        have HQ7 := Lib.hid (blw HQ6.out hb7)
        clear hp7 hi7 hb7 e7 hl7 HP6 HI6 HQ6 HLW
        go_wp2_with fail
        refine (same_any _ _ _ rfl rfl _ _ _ _ _ HI6b.out HI7.out).mono ?_
        rintro e w8 ⟨rfl, hb8⟩
        have HQ8 := Lib.hid (blw HQ7.out hb8)
        clear hb8 HI6b HI7 HQ7
        go_wp2_with fail
        go_roundw
        case rel => exact ⟨v + 1, by omega, by go_num, HQ8⟩
        case measure => simp [RowKit.intOf]; omega
      · obtain rfl : v = E.length := by omega
        have hpl : Valid D := by rw [← HD.out]; exact valid_bare E
        go_wp2_with fail
        refine (bare_any _ D _ (HH5.out.below HB.out) hpl (by rw [HDL.out]; exact hn)).mono ?_
        rw [show bareE D = D from by rw [← HD.out]; exact bare_bare HFL.out HV.out, HDL.out]
        rintro e w6 ⟨A6, c6, rfl, hi6, hb6⟩
        have HI6 := Lib.hid hi6; have HQ6 := Lib.hid (blw HB.out hb6)
        clear hi6 hb6
        go_wp2_with fail
        refine (sameL_any D _ _ HDL.out HDL.out _ _ _ _ _ HI6.out (HI5.out.below HQ6.out)).mono ?_
        rintro e w7 ⟨rfl, hb7⟩
        have HQ7 := Lib.hid (blw HQ6.out hb7)
        clear hb7 HI6 HQ6
        go_wp2_with fail
        refine (known_any _ (HT5.out.below HQ7.out HT5.out.lt)).mono ?_
        rintro e w8 ⟨rfl, hb8⟩
        go_wp2
        go_ret
        exact ⟨rfl, blw HB5.out (blw HQ7.out hb8)⟩
  · obtain ⟨q, hq⟩ : ∃ q, newE E = q := ⟨_, rfl⟩
    have hq0 : (q == 0) = false := by rw [beq_eq_false_iff_ne, ← hq]; exact hE
    have HQ := Lib.hid hq
    have HQ0 : Hid (q ≠ 0) := Lib.hid (by rw [← hq]; exact hE)
    clear hE hq
    go_enter Tryd.func5, Tryd.ntmps5
    go_wp2_with fail
    refine (long_few E _ _ _ H.out hn HZ.out false HS.out).mono ?_
    rintro e w1 ⟨rfl, rfl⟩
    go_wp2_with fail
    refine (new_bad E _ rfl _ _ _ H.out hn HLE.out HT.out q HQ.out HQ0.out).mono ?_
    rintro e w1 ⟨rfl, hb1⟩
    have HB1 := Lib.hid hb1
    clear hb1
    go_wp2_with fail
    refine (known_any _ (HT.out.below HB1.out HT.out.lt)).mono ?_
    rintro e w8 ⟨rfl, hb8⟩
    go_wp2
    go_ret
    exact ⟨rfl, blw HB1.out hb8⟩

namespace dagBare
theorem own : ownKnob Tryd.prog.godebug = none := by kernel_rfl
theorem laidOut : laidOutB Tryd.prog = true := by kernel_rfl
set_option maxRecDepth 100000 in
theorem lifted (os : Os) (started : os.Started) (H : Type) (enc : TypeId × Value → H) :
    ReturnsInHanded {} Tryd.checked os 5 .any (fun w args => (Rows.dagBareSpec.pre enc Tryd.prog Tryd.f5 [] false w args ∧ laidMetH Tryd.prog laid1 w) ∧ sizedMet enc Tryd.prog Tryd.f5 (OpenSpec.ofChange Rows.dagBareSpec) false w args)
      (Rows.dagBareSpec.post enc Tryd.prog Tryd.f5 false true false false) := by
  refine returnsInHanded_of_change_and (C := Tryd.checked) (X := fun w _ => laidMetH Tryd.prog laid1 w) (fun _ _ _ hh h => h.of_heap hh) own started (by kernel_rfl) Tryd.func5
    (ChangeSpec.witness_shaped (enc := enc) (C := Tryd.checked) (os := os) (X := fun w _ => laidMetH Tryd.prog laid1 w) false (World.laidAll Tryd.prog os laid1) #[.slice none 0 0] 8 (World.laidAll_os _ _ _)
      (World.shaped_of_ZipB (by kernel_rfl) (by kernel_rfl)) (by kernel_rfl) (by kernel_rfl) (by kernel_rfl)
      (by rw [MakeChecks.laidMetH_plain _ _ _ (by kernel_rfl)]; exact laidMet_laidAll _ (by kernel_rfl) (by kernel_rfl))) ?_
  intro W base args ds gs before hval0 hW _ hsz hL _
  have hval : ∀ (j : Nat) t v, Tryd.f5.params[j]? = some t → args[j]? = some v → Value.okWide Tryd.prog W .any base t v := hval0
  have hW' := hW
  obtain ⟨p, q, hA0, hV, rfl, _, _⟩ := hW
  have hA : DataW.TrodAll enc Tryd.prog W 0 (fun _ => true) true Tryd.f5.params.toList args.toList ds p := hA0
  rw [Tryd.params5] at hA hval
  obtain ⟨v0, vs0, d0, ds0, p0, q0, hargs, rfl, rfl, h0, r0⟩ := trodAll_cons hA
  obtain ⟨rfl, rfl, rfl⟩ := trodAll_nil r0
  obtain rfl : args = #[v0] := by cases args; simp_all
  obtain ⟨rfl, rfl⟩ := trodVars_none hV
  have k0 := h0
  have lt0 : ∀ x ∈ p0, x.block < W.heap.size := by obtain ⟨m, hm⟩ := k0; exact DataW.trod_lt m _ _ _ hm
  obtain ⟨A0, l0, c0, e0⟩ := okWide_slice Tryd.underlying22 (hval 0 22 v0 rfl rfl)
  obtain ⟨fuel0, hf0⟩ := h0
  rw [show v0.cells.toList = [v0] from by rw [e0]; rfl] at hf0
  clear e0 A0 l0 c0
  obtain ⟨A0, c0, z0, rfl, w0⟩ := rows_arg hf0
  have s0 := rows_sized hf0 (weights_at hsz (j := 0) (t := 22) rfl rfl) rfl w0
  clear hA0 hval0
  rw [MakeChecks.laidMetH_plain _ _ _ (by kernel_rfl)] at hL
  refine (walk_DagBare W (tab_of hL) A0 c0 z0 w0 s0).mono fun e W' ⟨he, bel⟩ => ?_
  subst he
  exact ⟨_, rfl, _, _, _, [], _, [], hW', trodAll_mk1 (shut_bool Tryd.underlying4 _), (trodAll_cons_mk (Below.trod laidOut (by kernel_rfl) (of_decide_eq_true (by kernel_rfl)) k0 bel lt0) trodAll_mk0), rfl, bel.frame _, fun h => by cases h⟩
theorem said : Rows.DagBareSaid :=
  OpenClaim.holds_of_wide 5 Tryd.f5 rfl rfl rfl rfl rfl rfl rfl ⟨rfl, rfl, rfl, rfl, rfl⟩ rfl rfl rfl rfl rfl (by kernel_rfl) Tryd.func5 (by kernel_rfl)
    (of_decide_eq_true (by kernel_rfl)) (by unfold Func.isWrapper; first | (rw [if_pos (by decide +kernel)]; kernel_rfl) | (rw [if_neg (by decide +kernel)]; exact ⟨rfl, rfl⟩))
    (fun os started H enc _ => lifted os started H enc)
theorem plain (f : FuncId) (fn : Func) (hf : Tryd.pinned.checked.prog.funcNamed "timekeeper/timekeeperlaw05.DagBare" = some f) (hfn : Tryd.pinned.checked.prog.funcs[f]? = some fn) :
    false = Tryd.pinned.checked.prog.looks [] ∧ ∀ (j : Nat) t, fn.params[j]? = some t → Tryd.pinned.checked.prog.wantsStandIn t = false := by
  obtain rfl : f = 5 := Option.some.inj ((show Tryd.prog.funcNamed "timekeeper/timekeeperlaw05.DagBare" = some 5 by kernel_rfl).symm.trans hf) |>.symm
  obtain rfl : fn = Tryd.f5 := (Option.some.inj (Tryd.func5.symm.trans hfn)).symm
  refine ⟨by kernel_rfl, fun j t ht => ?_⟩
  rw [Tryd.params5] at ht
  have hm : t ∈ [22] := by simpa using Array.mem_of_getElem? ht
  have hall : ([22].all fun u => !Tryd.prog.wantsStandIn u) = true := by kernel_rfl
  exact (show Tryd.prog.wantsStandIn t = false by simpa using List.all_eq_true.1 hall t hm)
theorem proved : Rows.DagBareCardSaid :=
  Claim7.holds_tied_plain_at .later [] _ _ _ _ said (fun _ h => by cases h) (by kernel_rfl) (fun _ h => by cases h) dagBare_row_tie rfl ⟨rfl, rfl⟩ (by kernel_rfl) rfl plain (by kernel_rfl)
#print axioms proved
end dagBare
end Go.Proofs.YtaokbjacfdipmaaDoor
