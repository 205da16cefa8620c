/- BookNew: for any three numbers, the law returns true, and all read afterwards as before. No condition. -/
import Derived.Test.YtapojmniokdjfaaRows
import Derived.Test.YtapojmniokdjfaaBkKn
import Derived.Test.YtapojmniokdjfaaStpArg
import Derived.WalkKit
import Derived.ProofKit
import Derived.OpenShut
import Derived.ShutString
import Derived.ChangeOld
import Derived.Below
namespace Go.Proofs.Ytapojmniokdjfaa
open Go.ChangeShapes Go.WideShapes Go.ChangeAt Go.RowKit
open Stp (blw al kp Stp.below RetP at_any least_any rsame_any sameB sameB_iff lit1)
open Bk
set_option linter.unusedVariables false

set_option maxRecDepth 100000 in
set_option maxHeartbeats 6400000 in
theorem walk_BookNew (w : World) (n a : Int) (wa : (Lit.int .u16 a).wf = true) (b : Int) (wb : (Lit.int .u8 b).wf = true) :
    Calls Try.prog 8 #[.int .i64 n, .int .u16 a, .int .u8 b] w fun e w' => e = .returned (.bool true) ∧ Below w.heap.size w w' := by
  have HK := Lib.hid known_any
  have hab := u16b wa
  have hbb := u8b wb
  have hSI := fun (W : World) => sameI_any [] [] none none 0 0 0 0 rfl rfl (by decide) (by decide) W (Its.nil _ _) (Its.nil _ _)
  rw [show sameI [] [] = true from rfl] at hSI
  have HSI := Lib.hid hSI
  clear wa wb hSI
  by_cases hn : 1 ≤ n ∧ n ≤ 10000
  · have HN := Lib.hid fun (W : World) => newb_yes n hn W
    obtain ⟨c, hc⟩ : ∃ c, a + 1 + b = c := ⟨_, rfl⟩
    obtain ⟨F1, hR⟩ := new_res (n := n) (a := a) (c := c) hn (by omega) (by omega) (by omega)
    have HR := Lib.hid hR
    have HFL : Hid (F1.length ≤ 3) := Lib.hid (by have := hR.inv.len; omega)
    have HT1 := Lib.hid fun (g m : Nat) (W : World) (hb : BookM W g m n [⟨0, n⟩] []) => take_any ⟨1, a, c, n⟩ wf1 W g m n [⟨0, n⟩] [] [] 0 (BkI.new hn) (by decide) hb
    unfold RetT at HT1
    rw [hR.e1, hR.f1, hR.l1] at HT1
    have HT2 := Lib.hid fun (g m : Nat) (W : World) (hb : BookM W g m n F1 [⟨1, a, c, n⟩]) => take_any ⟨2, a, a + 1, 1⟩ wf2 W g m n F1 [⟨1, a, c, n⟩] [a, c] 1 hR.inv (by decide) hb
    unfold RetT at HT2
    rw [hR.e2, hR.f2, hR.l2] at HT2
    have HST := Lib.hid fun (g m : Nat) (W : World) (hb : BookM W g m n F1 [⟨1, a, c, n⟩]) => steps_any W g m n F1 [⟨1, a, c, n⟩] hR.inv.prof (by have := HFL.out; omega) hb
    have HLE := Lib.hid fun (A : Option Addr) (d : Nat) (W : World) (hs : Stp.Stp W A d F1) => least_any F1 a c A F1.length d rfl W hs
    rw [hR.min, hR.min0] at HLE
    have HFR := Lib.hid fun (g m : Nat) (W : World) (hb : BookM W g m n F1 [⟨1, a, c, n⟩]) (A : Option Addr) (d : Nat) hA => free_any [1] W g m n F1 [⟨1, a, c, n⟩] [a, c] 1 hR.inv (by decide) (fun s hs => by simp at hs; subst hs; exact wf1) (fun x hx => by simp at hx; subst hx; exact wf1) (by decide) A d hA hb
    have HST2 := Lib.hid fun (g m : Nat) (W : World) (hb : BookM W g m n [⟨0, n⟩] []) => steps_any W g m n [⟨0, n⟩] [] (one_profB (by omega)) (by simp) hb
    have HSM := Lib.hid fun (A B : Option Addr) (x y : Nat) (W : World) (hs : Stp.Stp W A x [⟨0, n⟩]) (hs' : Stp.Stp W B y [⟨0, n⟩]) => rsame_any [⟨0, n⟩] [⟨0, n⟩] A B 1 1 x y rfl rfl W hs hs'
    rw [show sameB [(⟨0, n⟩ : StepD)] [⟨0, n⟩] = true from sameB_iff.2 rfl] at HSM
    have hn1 := hn.1; have hn2 := hn.2
    clear hR hn
    go_enter Try.func8, Try.ntmps8
    go_wp2_with fail
    refine (HN.out _).mono ?_
    rintro e w1 ⟨g, m, rfl, hB1, hg, hm, hb1⟩
    have HB1 := Lib.hid hb1; have HM1 := Lib.hid hB1
    clear hb1 hB1
    go_wp2_with fail
    try rw [hc]
    refine (HT1.out g m _ HM1.out).mono ?_
    rintro e w2 ⟨rfl, hB2, hw2⟩
    have HM2 := Lib.hid hB2; have HW2 := Lib.hid hw2
    clear hB2 hw2
    go_wp2_with fail
    refine (HST.out g m _ HM2.out).mono ?_
    rintro e w3 ⟨A3, c3, rfl, ho3, hb3⟩
    have HS3 := Lib.hid ho3.stp.2
    have HM3 := Lib.hid (HM2.out.below hb3); have HW3 := Lib.hid (HW2.out.trans (Wr.of_below (S := GB g m) hb3))
    clear ho3 hb3
    go_wp2_with fail
    try rw [hc]
    refine (HLE.out _ _ _ HS3.out).mono ?_
    rintro e w4 ⟨rfl, hb4⟩
    have HM4 := Lib.hid (HM3.out.below hb4); have HW4 := Lib.hid (HW3.out.trans (Wr.of_below (S := GB g m) hb4))
    clear hb4
    go_wp2_with fail
    refine (HT2.out g m _ HM4.out).mono ?_
    rintro e w5 ⟨rfl, hB5, hw5⟩
    have HM5 := Lib.hid hB5; have HW5 := Lib.hid (HW4.out.trans hw5)
    clear hB5 hw5
    go_wp2_with fail
    have HX := Lib.hid (al w5 (.cells #[.int .i64 1] 3))
    refine (HFR.out g m _ (HM5.out.below HX.out) _ _ ?hA).mono ?_
    case hA =>
      intro i x hx
      obtain ⟨b, off, e, hc⟩ := (its_one w5 1 3).cells i x hx
      refine ⟨b, off, e, hc, ?_⟩
      injection e with e
      injection e with e
      subst e
      have := HM5.out.lt
      rintro (e | e) <;> omega
    rintro e w6 ⟨e0, F', M, rfl, hfo, hB6, hw6⟩
    obtain ⟨rfl, rfl, rfl⟩ := new_free ⟨hn1, hn2⟩ hab.1 HR.out hfo
    have HM6 := Lib.hid hB6; have HW6 := Lib.hid ((HW5.out.trans (Wr.of_below (S := GB g m) HX.out)).trans hw6)
    clear hfo hB6 hw6
    go_wp2_with fail
    refine (HST2.out g m _ HM6.out).mono ?_
    rintro e w7 ⟨A7, c7, rfl, ho7, hb7⟩
    have HS7 := Lib.hid ho7.stp.2
    have HW7 := Lib.hid (HW6.out.trans (Wr.of_below (S := GB g m) hb7))
    clear ho7 hb7
    go_wp2_with fail
    have HY := Lib.hid (al w7 (.cells #[.int .i64 0, .int .i64 n] 58))
    refine (HSM.out _ _ _ _ _ (HS7.out.below HY.out) (lit1 (heap_alloc_new w7 _))).mono ?_
    rintro e w8 ⟨rfl, hb8⟩
    have HW8 := Lib.hid (HW7.out.trans (Wr.of_below (S := GB g m) (blw HY.out hb8)))
    clear hb8
    go_wp2_with fail
    refine (HSI.out _).mono ?_
    rintro e w9 ⟨rfl, hb9⟩
    have HW9 := Lib.hid (HW8.out.trans (Wr.of_below (S := GB g m) hb9))
    clear hb9
    go_wp2_with fail
    refine (HK.out _).mono ?_
    rintro e w' ⟨rfl, hw⟩
    have HWX := Lib.hid (HW9.out.trans (Wr.of_below (S := GB g m) hw))
    clear hw
    go_wp2
    go_ret
    exact ⟨rfl, HB1.out.trans (HWX.out.below HB1.out.size (by rintro b (rfl | rfl) <;> assumption))⟩
  · have HN := Lib.hid fun (W : World) => newb_no n hn W
    have HTN := Lib.hid fun (W : World) => take_nil (.int .i64 0) W ⟨1, 0, 1, 1⟩
    by_cases h1 : n < 1
    · clear hn
      go_enter Try.func8, Try.ntmps8
      go_wp2_with fail
      refine (HN.out _).mono ?_
      rintro e w1 ⟨rfl, hb1⟩
      go_wp2_with fail
      refine (HTN.out _).mono ?_
      rintro e w2 ⟨rfl, hb2⟩
      go_wp2_with fail
      refine (HK.out _).mono ?_
      rintro e w' ⟨rfl, hw⟩
      go_wp2
      go_ret
      exact ⟨rfl, blw (blw hb1 hb2) hw⟩
    · have h2 : 10000 < n := by omega
      clear hn
      go_enter Try.func8, Try.ntmps8
      go_wp2_with fail
      refine (HN.out _).mono ?_
      rintro e w1 ⟨rfl, hb1⟩
      go_wp2_with fail
      refine (HTN.out _).mono ?_
      rintro e w2 ⟨rfl, hb2⟩
      go_wp2_with fail
      refine (HK.out _).mono ?_
      rintro e w' ⟨rfl, hw⟩
      go_wp2
      go_ret
      exact ⟨rfl, blw (blw hb1 hb2) hw⟩

namespace bookNew
open Go.ChangeShapes Go.WideShapes Go.ChangeAt Go.RowKit
theorem own : ownKnob Try.prog.godebug = none := by kernel_rfl
theorem laidOut : laidOutB Try.prog = true := by kernel_rfl

set_option maxRecDepth 100000 in
theorem lifted (os : Os) (started : os.Started) (H : Type) (enc : TypeId × Value → H) :
    ReturnsInHanded {} Try.checked os 8 .any (Rows.bookNewSpec.pre6 enc Try.prog Try.f8 Rows.bookNewRow.domain false) (Rows.bookNewSpec.post enc Try.prog Try.f8 false true false false) := by
  refine returnsInHanded_of_change (C := Try.checked) own started (by kernel_rfl) Try.func8
    (ChangeSpec.witness6 (enc := enc) (C := Try.checked) false ⟨#[], #[.int .i64 0, .int .u16 0, .int .u8 0], []⟩ 8 (by kernel_rfl) (by kernel_rfl) (by kernel_rfl) (by kernel_rfl)) ?_
  intro W base args ds gs before hval0 hW hcnd _
  have hval : ∀ (j : Nat) t v, Try.f8.params[j]? = some t → args[j]? = some v → Value.okWide Try.prog W .any base t v := hval0
  have hW' := hW
  obtain ⟨p, q, hA0, hV, rfl, hfz, hnd⟩ := hW
  have hA : DataW.TrodAll enc Try.prog W 0 (fun _ => true) true Try.f8.params.toList args.toList ds p := hA0
  rw [Try.params8] at hA hval
  obtain ⟨v0, vs0, d0, ds0, p0, q0, hargs, rfl, rfl, h0, r0⟩ := trodAll_cons hA
  obtain ⟨v1, vs1, d1, ds1, p1, q1, rfl, rfl, rfl, h1, r1⟩ := trodAll_cons r0
  obtain ⟨v2, vs2, d2, ds2, p2, q2, rfl, rfl, rfl, h2, r2⟩ := trodAll_cons r1
  obtain ⟨rfl, rfl, rfl⟩ := trodAll_nil r2
  obtain rfl : args = #[v0, v1, v2] := by cases args; simp_all
  obtain ⟨rfl, rfl⟩ := trodVars_none hV
  obtain ⟨a0, rfl, rfl, rfl, w0⟩ := open_int Try.underlying3 (hval 0 3 v0 rfl rfl) h0
  obtain ⟨a1, rfl, rfl, rfl, w1⟩ := open_int Try.underlying54 (hval 1 54 v1 rfl rfl) h1
  obtain ⟨a2, rfl, rfl, rfl, w2⟩ := open_int Try.underlying5 (hval 2 5 v2 rfl rfl) h2
  simp only [List.append_nil] at hW'
  clear hA0 hval0
  refine (walk_BookNew W a0 a1 w1 a2 w2).mono fun e W' ⟨he, bel⟩ => ?_
  subst he
  exact ⟨_, rfl, _, _, _, [], _, [], hW', trodAll_mk1 (shut_bool Try.underlying4 _), (trodAll_cons_mk (shut_int Try.underlying3 w0) (trodAll_cons_mk (shut_int Try.underlying54 w1) (trodAll_cons_mk (shut_int Try.underlying5 w2) trodAll_mk0))), rfl, bel.frame _, fun h => by cases h⟩

theorem over : Rows.bookNewRow.holds Try.pinned (OpenSpec.ofChange Rows.bookNewSpec) :=
  OpenClaim.holds_of_wide 8 Try.f8 rfl rfl rfl rfl rfl rfl rfl ⟨rfl, rfl, rfl, rfl, rfl⟩ rfl rfl rfl rfl rfl (by kernel_rfl) Try.func8 (by kernel_rfl)
    (of_decide_eq_true (by kernel_rfl)) (by unfold Func.isWrapper; first | (rw [if_pos (by decide +kernel)]; kernel_rfl) | (rw [if_neg (by decide +kernel)]; exact ⟨rfl, rfl⟩))
    (fun os started H enc _ => lifted os started H enc)

theorem proved : Rows.BookNewSaid := over
#print axioms proved
end bookNew
end Go.Proofs.Ytapojmniokdjfaa

