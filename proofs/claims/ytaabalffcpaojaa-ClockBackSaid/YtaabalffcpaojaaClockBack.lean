/- ClockBack: for any int and any string the law returns true, and both read afterwards as before. No condition. -/
import Derived.Test.YtaabalffcpaojaaRows
import Derived.Test.YtaabalffcpaojaaClkKnown
import Derived.WalkKit
import Derived.ProofKit
import Derived.OpenShut
import Derived.ShutString
import Derived.ChangeOld
import Derived.Below
import Derived.Outline
namespace Go.Proofs.Ytaabalffcpaojaa
open Go.ChangeShapes Go.WideShapes Go.ChangeAt Go.RowKit
open Go.ChangeMaps (open_string shut_string)
set_option linter.unusedVariables false

theorem textL_len (t : Int) : (textL t).length ≤ 13 := by
  cases h : isT t
  · rw [textL_no h]; simp
  · rw [textL_yes h]
    have b := isT_bd h
    exact txt_bound (by omega)
theorem read_text (t : Int) (W : World) (v e0 : Int) (hv : readV (textL t) = v) (he : readE (textL t) = e0) :
    Calls Try.prog 22 #[.string ⟨(textL t).toArray⟩] W fun e w' => e = .returned (.tuple #[.int .i64 v, .int .i64 e0]) ∧ Below W.heap.size W w' := by
  have h := read_any ⟨(textL t).toArray⟩ W (by have := textL_len t; simp [ByteArray.size, maxLen]; omega)
  have e1 : (⟨(textL t).toArray⟩ : ByteArray).data.toList = textL t := rfl
  rw [e1, hv, he] at h
  exact h
theorem back_yes {t : Int} (h : isT t = true) : readV (textL t) = t ∧ readE (textL t) = 0 := by
  have b := isT_bd h
  rw [textL_yes h]
  have hv : val (txt t.toNat) ≤ 1099511627775 := by rw [txt_val]; omega
  rw [(read_yes (txt_numB _) hv).1, (read_yes (txt_numB _) hv).2, txt_val]
  exact ⟨by omega, rfl⟩
theorem back_no {t : Int} (h : isT t = false) : readV (textL t) = 0 ∧ readE (textL t) = 5 := by
  rw [textL_no h]; exact read_form numB_nil
theorem read_at (s : ByteArray) (W : World) (hs : s.size ≤ maxLen) (v e0 : Int) (hv : readV s.data.toList = v) (he : readE s.data.toList = e0) :
    Calls Try.prog 22 #[.string s] W fun e w' => e = .returned (.tuple #[.int .i64 v, .int .i64 e0]) ∧ Below W.heap.size W w' := by
  have h := read_any s W hs
  rw [hv, he] at h
  exact h
theorem text_back (s : ByteArray) (W : World) (m : Int) (hN : numB s.data.toList = true) (hl : val s.data.toList ≤ 1099511627775) (hm : (val s.data.toList : Int) = m) :
    Calls Try.prog 24 #[.int .i64 m] W fun e w' => e = .returned (.string s) ∧ Below W.heap.size W w' := by
  have h := text_any m W
  have e : textL m = s.data.toList := by
    rw [textL_yes (isT_yes (by omega) (by omega)), ← hm, Int.toNat_natCast, txt_back hN]
  rw [e] at h
  exact h

set_option maxHeartbeats 1600000 in
theorem walk_ClockBack (w : World) (t : Int) (wt : (Lit.int .i64 t).wf = true) (s : ByteArray) (hs : s.size ≤ maxLen) :
    Calls Try.prog 6 #[.int .i64 t, .string s] w fun e w' => e = .returned (.bool true) ∧ Below w.heap.size w w' := by
  have HS := Lib.hid hs
  clear wt
  unfold maxLen at hs
  by_cases hlen : 300 < s.size
  · go_enter Try.func6, Try.ntmps6
    go_wp2_with fail
    refine (known_any _).mono ?_
    rintro e w1 ⟨rfl, hb1⟩
    go_wp2_with fail
    go_ret
    exact ⟨rfl, hb1⟩
  obtain ⟨v, e0, hv, he, ht⟩ : ∃ v e0 : Int, Hid (readV (textL t) = v) ∧ Hid (readE (textL t) = e0) ∧ (isT t = true ∧ v = t ∧ e0 = 0 ∨ isT t = false ∧ v = 0 ∧ e0 = 5) := by
    cases h : isT t
    · exact ⟨0, 5, Lib.hid (back_no h).1, Lib.hid (back_no h).2, Or.inr ⟨rfl, rfl, rfl⟩⟩
    · exact ⟨t, 0, Lib.hid (back_yes h).1, Lib.hid (back_yes h).2, Or.inl ⟨rfl, rfl, rfl⟩⟩
  cases hN : numB s.data.toList
  · have H1 := Lib.hid (read_form hN); clear hN
    rcases ht with ⟨hT, rfl, rfl⟩ | ⟨hT, rfl, rfl⟩
    all_goals
      go_enter Try.func6, Try.ntmps6
      go_wp2_with fail
      refine (text_any _ _).mono ?_
      rintro e w1 ⟨rfl, hb1⟩
      go_wp2_with fail
      refine (read_text _ _ _ _ hv.out he.out).mono ?_
      rintro e w2 ⟨rfl, hb2⟩
      go_wp2_with fail
      refine (read_at _ _ HS.out _ _ H1.out.1 H1.out.2).mono ?_
      rintro e w3 ⟨rfl, hb3⟩
      go_wp2_with fail
      refine (is_any _ _).mono ?_
      rintro e w' ⟨rfl, rfl⟩
      go_wp2_with fail
      refine (known_any _).mono ?_
      rintro e w4 ⟨rfl, hb4⟩
      go_wp2_with fail
      go_ret
      exact ⟨rfl, blw (blw (blw hb1 hb2) hb3) hb4⟩
  · by_cases hle : val s.data.toList ≤ 1099511627775
    · have H1 := Lib.hid (read_yes hN hle)
      have HN := Lib.hid hN
      have HL := Lib.hid hle
      obtain ⟨m, hm⟩ : ∃ m : Int, (val s.data.toList : Int) = m := ⟨_, rfl⟩
      have H2 := Lib.hid (show readV s.data.toList = m from by rw [H1.out.1, hm])
      have HM := Lib.hid hm
      clear hN hle hm
      rcases ht with ⟨hT, rfl, rfl⟩ | ⟨hT, rfl, rfl⟩
      all_goals
        go_enter Try.func6, Try.ntmps6
        go_wp2_with fail
        refine (text_any _ _).mono ?_
        rintro e w1 ⟨rfl, hb1⟩
        go_wp2_with fail
        refine (read_text _ _ _ _ hv.out he.out).mono ?_
        rintro e w2 ⟨rfl, hb2⟩
        go_wp2_with fail
        refine (read_at _ _ HS.out _ _ H2.out H1.out.2).mono ?_
        rintro e w3 ⟨rfl, hb3⟩
        go_wp2_with fail
        refine (is_any _ _).mono ?_
        rintro e w' ⟨rfl, rfl⟩
        go_wp2_with fail
        refine (text_back s _ _ HN.out HL.out HM.out).mono ?_
        rintro e w4 ⟨rfl, hb4⟩
        go_wp2_with fail
        refine (known_any _).mono ?_
        rintro e w5 ⟨rfl, hb5⟩
        go_wp2_with fail
        go_ret
        exact ⟨rfl, blw (blw (blw (blw hb1 hb2) hb3) hb4) hb5⟩
    · have H1 := Lib.hid (read_over hN (by omega)); clear hN hle
      rcases ht with ⟨hT, rfl, rfl⟩ | ⟨hT, rfl, rfl⟩
      all_goals
        go_enter Try.func6, Try.ntmps6
        go_wp2_with fail
        refine (text_any _ _).mono ?_
        rintro e w1 ⟨rfl, hb1⟩
        go_wp2_with fail
        refine (read_text _ _ _ _ hv.out he.out).mono ?_
        rintro e w2 ⟨rfl, hb2⟩
        go_wp2_with fail
        refine (read_at _ _ HS.out _ _ H1.out.1 H1.out.2).mono ?_
        rintro e w3 ⟨rfl, hb3⟩
        go_wp2_with fail
        refine (is_any _ _).mono ?_
        rintro e w' ⟨rfl, rfl⟩
        go_wp2_with fail
        refine (known_any _).mono ?_
        rintro e w4 ⟨rfl, hb4⟩
        go_wp2_with fail
        go_ret
        exact ⟨rfl, blw (blw (blw hb1 hb2) hb3) hb4⟩

namespace clockBack
theorem own : ownKnob Try.prog.godebug = none := by kernel_rfl
theorem laidOut : laidOutB Try.prog = true := by kernel_rfl

set_option maxRecDepth 100000 in
theorem lifted (os : Os) (started : os.Started) (H : Type) (enc : TypeId × Value → H) :
    ReturnsInHanded {} Try.checked os 6 .any (Rows.clockBackSpec.pre6 enc Try.prog Try.f6 Rows.clockBackRow.domain false) (Rows.clockBackSpec.post enc Try.prog Try.f6 false true false false) := by
  refine returnsInHanded_of_change (C := Try.checked) own started (by kernel_rfl) Try.func6
    (ChangeSpec.witness6 (enc := enc) (C := Try.checked) false ⟨#[], #[.int .i64 0, .string ByteArray.empty], []⟩ 8 (by kernel_rfl) (by kernel_rfl) (by kernel_rfl) (by kernel_rfl)) ?_
  intro W base args ds gs before hval0 hW hcnd _
  have hval : ∀ (j : Nat) t v, Try.f6.params[j]? = some t → args[j]? = some v → Value.okWide Try.prog W .any base t v := hval0
  have hW' := hW
  obtain ⟨p, q, hA0, hV, rfl, hfz, hnd⟩ := hW
  have hA : DataW.TrodAll enc Try.prog W 0 (fun _ => true) true Try.f6.params.toList args.toList ds p := hA0
  rw [Try.params6] at hA hval
  obtain ⟨v0, vs0, d0, ds0, p0, q0, hargs, rfl, rfl, h0, r0⟩ := trodAll_cons hA
  obtain ⟨v1, vs1, d1, ds1, p1, q1, rfl, rfl, rfl, h1, r1⟩ := trodAll_cons r0
  obtain ⟨rfl, rfl, rfl⟩ := trodAll_nil r1
  obtain rfl : args = #[v0, v1] := by cases args; simp_all
  obtain ⟨rfl, rfl⟩ := trodVars_none hV
  obtain ⟨a0, rfl, rfl, rfl, w0⟩ := open_int Try.underlying3 (hval 0 3 v0 rfl rfl) h0
  obtain ⟨a1, rfl, rfl, rfl, w1⟩ := open_string Try.underlying9 (hval 1 9 v1 rfl rfl) h1
  clear hA0 hval0
  simp only [List.append_nil] at hW'
  refine (walk_ClockBack W a0 w0 a1 w1).mono fun e W' ⟨he, bel⟩ => ?_
  subst he
  exact ⟨_, rfl, _, _, _, [], _, [], hW', trodAll_mk1 (shut_bool Try.underlying4 _), (trodAll_cons_mk (shut_int Try.underlying3 w0) (trodAll_cons_mk (shut_string Try.underlying9 w1) trodAll_mk0)), rfl, bel.frame _, fun h => by cases h⟩

theorem over : Rows.clockBackRow.holds Try.pinned (OpenSpec.ofChange Rows.clockBackSpec) :=
  OpenClaim.holds_of_wide 6 Try.f6 rfl rfl rfl rfl rfl rfl rfl ⟨rfl, rfl, rfl, rfl, rfl⟩ rfl rfl rfl rfl rfl (by kernel_rfl) Try.func6 (by kernel_rfl)
    (of_decide_eq_true (by kernel_rfl)) (by unfold Func.isWrapper; first | (rw [if_pos (by decide +kernel)]; kernel_rfl) | (rw [if_neg (by decide +kernel)]; exact ⟨rfl, rfl⟩))
    (fun os started H enc _ => lifted os started H enc)

theorem proved : Rows.ClockBackSaid := over
#print axioms proved
end clockBack
end Go.Proofs.Ytaabalffcpaojaa
