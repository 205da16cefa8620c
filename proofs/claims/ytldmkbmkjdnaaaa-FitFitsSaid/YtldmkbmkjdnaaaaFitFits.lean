/- FitFits: for any steps, window and numbers, the law returns true, and all read afterwards as before. No condition. -/
import Derived.Test.YtldmkbmkjdnaaaaRows
import Derived.Test.YtldmkbmkjdnaaaaFitH
import Derived.Test.YtldmkbmkjdnaaaaFitArg
import Derived.WalkKit
import Derived.ProofKit
import Derived.OpenShut
import Derived.ShutString
import Derived.ChangeOld
import Derived.Below
namespace Go.Proofs.Ytldmkbmkjdnaaaa
open Go.ChangeShapes Go.WideShapes Go.ChangeAt Go.RowKit
open Stp (blw al kp dr drN Stp.below new2)
open Ft
set_option linter.unusedVariables false

set_option maxRecDepth 100000 in
set_option maxHeartbeats 3200000 in
theorem walk_FitFits (w : World) (A : Option Addr) (c0 : Nat) (l : List StepD) (h : Stp.Stp w A c0 l) (a b n d t : Int) :
    Calls Try.prog 5 #[.slice A l.length c0, .agg #[.int .i64 a, .int .i64 b], .int .i64 n, .int .i64 d, .int .i64 t] w fun e w' => e = .returned (.bool true) ∧ Below w.heap.size w w' := by
  have HK := Lib.hid known10_any
  obtain ⟨m, hm⟩ : ∃ m, l.length = m := ⟨_, rfl⟩
  have hml : m ≤ 9223372036854775807 := by rw [← hm]; exact h.lenI
  rw [hm]
  by_cases hlong : 40 < m
  · clear h hm
    go_enter Try.func5, Try.ntmps5
    go_wp2_with fail
    refine (HK.out _).mono ?_
    rintro e w' ⟨rfl, hw⟩
    go_wp2
    go_ret
    exact ⟨rfl, blw (al w _) hw⟩
  have HF := Lib.hid fun W (hW : Below w.heap.size w W) => fits_any l a b n d t A m c0 hm W (h.below hW)
  have HC := Lib.hid fun W (hW : Below w.heap.size w W) => rchk_any l a b n d A m c0 hm W (h.below hW)
  rcases req_or l a b n d with hq | hq
  case inr =>
    have k1 : fitsV l a b n d t = false := by unfold fitsV; rw [hq]; rfl
    have k2 : fitsE l a b n d t = 2 := by unfold fitsE; rw [if_neg (by rintro ⟨e, _⟩; omega)]
    rw [k1, k2] at HF
    rw [hq] at HC
    clear h hm hq k1 k2
    obtain ⟨x0, x1⟩ := new2 w (.int .i64 a) (.int .i64 b) 28
    go_enter Try.func5, Try.ntmps5
    go_wp2_with fail
    refine (HF.out _ (al w _)).mono ?_
    rintro e w1 ⟨rfl, hb1⟩
    have HW1 := Lib.hid (blw (al w (.cells #[.int .i64 a, .int .i64 b] 28)) hb1)
    have y0 := kp hb1 x0; have y1 := kp hb1 x1
    clear hb1 x0 x1
    go_wp2_with fail
    refine (HC.out _ HW1.out).mono ?_
    rintro e w2 ⟨rfl, hb2⟩
    have HW2 := Lib.hid (blw HW1.out hb2)
    have z0 := kp hb2 y0; have z1 := kp hb2 y1
    clear hb2 y0 y1
    go_wp2_with fail
    refine (HK.out _).mono ?_
    rintro e w' ⟨rfl, hw⟩
    go_wp2
    go_ret
    exact ⟨rfl, blw HW2.out hw⟩
  obtain ⟨hp, ha, hb, hn, hd, hl⟩ := req_bds hq
  cases hi : Clk.isT t
  case false =>
    have k1 : fitsV l a b n d t = false := by unfold fitsV; rw [hi]; simp
    have k2 : fitsE l a b n d t = 2 := by unfold fitsE; rw [if_neg (by rw [hi]; rintro ⟨_, e⟩; cases e)]
    rw [k1, k2] at HF
    rw [hq] at HC
    have ht : t < 0 ∨ 1099511627775 < t := by
      rcases Int.lt_or_le t 0 with q | q
      · exact Or.inl q
      · rcases Int.lt_or_le 1099511627775 t with q2 | q2
        · exact Or.inr q2
        · rw [Clk.isT_yes q q2] at hi; cases hi
    rcases ht with ht | ht
    · clear h hm hq k1 k2 hp hl hi
      obtain ⟨x0, x1⟩ := new2 w (.int .i64 a) (.int .i64 b) 28
      go_enter Try.func5, Try.ntmps5
      go_wp2_with fail
      refine (HF.out _ (al w _)).mono ?_
      rintro e w1 ⟨rfl, hb1⟩
      have HW1 := Lib.hid (blw (al w (.cells #[.int .i64 a, .int .i64 b] 28)) hb1)
      have y0 := kp hb1 x0; have y1 := kp hb1 x1
      clear hb1 x0 x1
      go_wp2_with fail
      refine (HC.out _ HW1.out).mono ?_
      rintro e w2 ⟨rfl, hb2⟩
      have HW2 := Lib.hid (blw HW1.out hb2)
      have z0 := kp hb2 y0; have z1 := kp hb2 y1
      clear hb2 y0 y1
      go_wp2_with fail
      refine (HK.out _).mono ?_
      rintro e w' ⟨rfl, hw⟩
      go_wp2
      go_ret
      exact ⟨rfl, blw HW2.out hw⟩
    · have ht0 : ¬ t < 0 := by omega
      clear h hm hq k1 k2 hp hl hi
      obtain ⟨x0, x1⟩ := new2 w (.int .i64 a) (.int .i64 b) 28
      go_enter Try.func5, Try.ntmps5
      go_wp2_with fail
      refine (HF.out _ (al w _)).mono ?_
      rintro e w1 ⟨rfl, hb1⟩
      have HW1 := Lib.hid (blw (al w (.cells #[.int .i64 a, .int .i64 b] 28)) hb1)
      have y0 := kp hb1 x0; have y1 := kp hb1 x1
      clear hb1 x0 x1
      go_wp2_with fail
      refine (HC.out _ HW1.out).mono ?_
      rintro e w2 ⟨rfl, hb2⟩
      have HW2 := Lib.hid (blw HW1.out hb2)
      have z0 := kp hb2 y0; have z1 := kp hb2 y1
      clear hb2 y0 y1
      go_wp2_with fail
      refine (HK.out _).mono ?_
      rintro e w' ⟨rfl, hw⟩
      go_wp2
      go_ret
      exact ⟨rfl, blw HW2.out hw⟩
  have ht := Clk.isT_bd hi
  have HR := Lib.hid fun W (hW : Below w.heap.size w W) => rfits_any l hp a b n d t hb.2 ha.1 ⟨hd.1, by omega⟩ ⟨by omega, by omega⟩ A m c0 hm W (h.below hW)
  unfold RF at HR
  obtain ⟨r, hr⟩ : ∃ r, fitB l n d a b t = r := ⟨_, rfl⟩
  have k1 : fitsV l a b n d t = r := by unfold fitsV; rw [hi, hq, hr]; simp
  have k2 : fitsE l a b n d t = 0 := by unfold fitsE; rw [if_pos ⟨hq, hi⟩]
  rw [k1, k2] at HF
  rw [hq] at HC
  rw [hr] at HR
  have hrr : (r == r) = true := by simp
  clear h hm hq k1 k2 hp hl hi hr
  obtain ⟨x0, x1⟩ := new2 w (.int .i64 a) (.int .i64 b) 28
  go_enter Try.func5, Try.ntmps5
  go_wp2_with fail
  refine (HF.out _ (al w _)).mono ?_
  rintro e w1 ⟨rfl, hb1⟩
  have HW1 := Lib.hid (blw (al w (.cells #[.int .i64 a, .int .i64 b] 28)) hb1)
  have y0 := kp hb1 x0; have y1 := kp hb1 x1
  clear hb1 x0 x1
  go_wp2_with fail
  refine (HC.out _ HW1.out).mono ?_
  rintro e w2 ⟨rfl, hb2⟩
  have HW2 := Lib.hid (blw HW1.out hb2)
  have z0 := kp hb2 y0; have z1 := kp hb2 y1
  clear hb2 y0 y1
  go_wp2_with fail
  refine (HR.out _ HW2.out).mono ?_
  rintro e w3 ⟨rfl, hb3⟩
  have HW3 := Lib.hid (blw HW2.out hb3)
  clear hb3 z0 z1
  go_wp2_with fail
  refine (HK.out _).mono ?_
  rintro e w' ⟨rfl, hw⟩
  go_wp2
  go_ret
  exact ⟨rfl, blw HW3.out hw⟩

namespace fitFits
open Go.ChangeShapes Go.WideShapes Go.ChangeAt Go.RowKit
theorem own : ownKnob Try.prog.godebug = none := by kernel_rfl
theorem laidOut : laidOutB Try.prog = true := by kernel_rfl

set_option maxRecDepth 100000 in
theorem lifted (os : Os) (started : os.Started) (H : Type) (enc : TypeId × Value → H) :
    ReturnsInHanded {} Try.checked os 5 .any (Rows.fitFitsSpec.pre6 enc Try.prog Try.f5 Rows.fitFitsRow.domain false) (Rows.fitFitsSpec.post enc Try.prog Try.f5 false true false false) := by
  refine returnsInHanded_of_change (C := Try.checked) own started (by kernel_rfl) Try.func5
    (ChangeSpec.witness6 (enc := enc) (C := Try.checked) false ⟨#[], #[.slice none 0 0, .agg #[.int .i64 0, .int .i64 0], .int .i64 0, .int .i64 0, .int .i64 0], []⟩ 8 (by kernel_rfl) (by kernel_rfl) (by kernel_rfl) (by kernel_rfl)) ?_
  intro W base args ds gs before hval0 hW hcnd _
  have hval : ∀ (j : Nat) t v, Try.f5.params[j]? = some t → args[j]? = some v → Value.okWide Try.prog W .any base t v := hval0
  have hW' := hW
  obtain ⟨p, q, hA0, hV, rfl, hfz, hnd⟩ := hW
  have hA : DataW.TrodAll enc Try.prog W 0 (fun _ => true) true Try.f5.params.toList args.toList ds p := hA0
  rw [Try.params5] at hA hval
  obtain ⟨v0, vs0, d0, ds0, p0, q0, hargs, rfl, rfl, h0, r0⟩ := trodAll_cons hA
  obtain ⟨v1, vs1, d1, ds1, p1, q1, rfl, rfl, rfl, h1, r1⟩ := trodAll_cons r0
  obtain ⟨v2, vs2, d2, ds2, p2, q2, rfl, rfl, rfl, h2, r2⟩ := trodAll_cons r1
  obtain ⟨v3, vs3, d3, ds3, p3, q3, rfl, rfl, rfl, h3, r3⟩ := trodAll_cons r2
  obtain ⟨v4, vs4, d4, ds4, p4, q4, rfl, rfl, rfl, h4, r4⟩ := trodAll_cons r3
  obtain ⟨rfl, rfl, rfl⟩ := trodAll_nil r4
  obtain rfl : args = #[v0, v1, v2, v3, v4] := by cases args; simp_all
  obtain ⟨rfl, rfl⟩ := trodVars_none hV
  have k0 := h0
  have lt0 : ∀ x ∈ p0, x.block < W.heap.size := by obtain ⟨m, hm⟩ := k0; exact DataW.trod_lt m _ _ _ hm
  obtain ⟨A0, l0, c0, e0⟩ := okWide_slice Try.underlying22 (hval 0 22 v0 rfl rfl)
  obtain ⟨fuel0, hf0⟩ := h0
  rw [show v0.cells.toList = [v0] from by rw [e0]; rfl] at hf0
  clear e0 A0 l0 c0
  obtain ⟨A0, c0, z0, rfl, w0⟩ := Stp.steps_arg hf0
  have k1 := h1
  have lt1 : ∀ x ∈ p1, x.block < W.heap.size := by obtain ⟨m, hm⟩ := k1; exact DataW.trod_lt m _ _ _ hm
  obtain ⟨cs1, e1, _⟩ := okWide_struct Try.underlying28 (hval 1 28 v1 rfl rfl)
  obtain ⟨fuel1, hf1⟩ := h1
  rw [show v1.cells.toList = cs1.toList from by rw [e1]; rfl] at hf1
  obtain ⟨x1, y1, hcs1⟩ := Ft.win_arg hf1
  obtain rfl : cs1 = #[.int .i64 x1, .int .i64 y1] := by rw [← Array.toArray_toList (xs := cs1), hcs1]
  subst e1
  clear hf1 hcs1
  obtain ⟨a2, rfl, rfl, rfl, w2⟩ := open_int Try.underlying3 (hval 2 3 v2 rfl rfl) h2
  obtain ⟨a3, rfl, rfl, rfl, w3⟩ := open_int Try.underlying3 (hval 3 3 v3 rfl rfl) h3
  obtain ⟨a4, rfl, rfl, rfl, w4⟩ := open_int Try.underlying3 (hval 4 3 v4 rfl rfl) h4
  clear hA0 hval0
  refine (walk_FitFits W A0 c0 z0 w0 x1 y1 a2 a3 a4).mono fun e W' ⟨he, bel⟩ => ?_
  subst he
  exact ⟨_, rfl, _, _, _, [], _, [], hW', trodAll_mk1 (shut_bool Try.underlying4 _), (trodAll_cons_mk (Below.trod laidOut (by kernel_rfl) (of_decide_eq_true (by kernel_rfl)) k0 bel lt0) (trodAll_cons_mk (Below.trod laidOut (by kernel_rfl) (of_decide_eq_true (by kernel_rfl)) k1 bel lt1) (trodAll_cons_mk (shut_int Try.underlying3 w2) (trodAll_cons_mk (shut_int Try.underlying3 w3) (trodAll_cons_mk (shut_int Try.underlying3 w4) trodAll_mk0))))), rfl, bel.frame _, fun h => by cases h⟩

theorem over : Rows.fitFitsRow.holds Try.pinned (OpenSpec.ofChange Rows.fitFitsSpec) :=
  OpenClaim.holds_of_wide 5 Try.f5 rfl rfl rfl rfl rfl rfl rfl ⟨rfl, rfl, rfl, rfl, rfl⟩ rfl rfl rfl rfl rfl (by kernel_rfl) Try.func5 (by kernel_rfl)
    (of_decide_eq_true (by kernel_rfl)) (by unfold Func.isWrapper; first | (rw [if_pos (by decide +kernel)]; kernel_rfl) | (rw [if_neg (by decide +kernel)]; exact ⟨rfl, rfl⟩))
    (fun os started H enc _ => lifted os started H enc)

theorem proved : Rows.FitFitsSaid := over
#print axioms proved
end fitFits
end Go.Proofs.Ytldmkbmkjdnaaaa

