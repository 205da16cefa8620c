/- JournalSums: for any slice of bytes the law returns true, and it reads afterwards as before. No condition. -/
import Derived.Test.YtieeojigonbifaaRows
import Derived.Test.YtieeojigonbifaaJrnArg
import Derived.WalkKit
import Derived.ProofKit
import Derived.OpenShut
import Derived.ShutString
import Derived.ChangeOld
import Derived.Below
namespace Go.Proofs.Ytieeojigonbifaa
open Go.ChangeShapes Go.WideShapes Go.ChangeAt Go.RowKit
set_option linter.unusedVariables false

set_option maxHeartbeats 1600000 in
theorem walk_JournalSums (w : World) (A : Option Addr) (c : Nat) (xs : List Int) (h : Byts w (fun _ => True) A c xs) :
    Calls Try.prog 3 #[.slice A xs.length c] w fun e w' => e = .returned (.bool true) ∧ Below w.heap.size w w' := by
  have hcap : xs.length ≤ 9223372036854775807 := Nat.le_trans h.cap h.top
  have H := Lib.hid h; clear h
  by_cases hlong : 3000 < xs.length
  · go_enter Try.func3, Try.ntmps3
    go_wp2_with fail
    refine (known_any _).mono ?_
    rintro e w' ⟨rfl, hw⟩
    go_wp2
    go_ret
    exact ⟨rfl, hw⟩
  obtain ⟨fr, efr⟩ : ∃ fr, frame xs = fr := ⟨_, rfl⟩
  have EFR := Lib.hid efr; clear efr
  obtain ⟨s, es⟩ : ∃ s, sumA xs = s := ⟨_, rfl⟩
  have hs0 := (sumA_bd xs).1
  have hs1 := (sumA_bd xs).2
  rw [es] at hs0 hs1
  have ES := Lib.hid es; clear es
  go_enter Try.func3, Try.ntmps3
  go_wp2_with fail
  refine (frame_any _ _ _ _ xs _ H.out rfl (by omega)).mono ?_
  rw [EFR.out]
  rintro e w1 ⟨A1, c1, rfl, ho1, hw1⟩
  have HO1 := Lib.hid ho1; clear ho1
  go_wp2_with fail
  refine (rframe_any _ _ _ _ xs _ (H.out.below hw1) rfl (by omega)).mono ?_
  rw [EFR.out]
  rintro e w2 ⟨A2, c2, rfl, ho2, hw2⟩
  have HO2 := Lib.hid ho2; clear ho2
  have hw02 := blw hw1 hw2
  go_wp2_with fail
  refine (sum_at (fun _ => True) _ _ _ [xs] s _ (Rws.one (H.out.below hw02) rfl rfl trivial) rfl (by rw [← ES.out]; simp)).mono ?_
  rintro e w3 ⟨rfl, rfl⟩
  go_wp2_with fail
  have hw03 := hw02.alloc hw02.size (.cells #[.slice A xs.length c] 22)
  refine (rsum_any _ _ _ xs _ (H.out.below hw03) (by omega)).mono ?_
  rintro e w3 ⟨rfl, rfl⟩
  rw [ES.out]
  go_wp2_with fail
  refine (rsame_any _ _ _ _ _ _ _ _ fr fr _ (((byts_of HO1.out).below hw2).alloc _) ((byts_of HO2.out).alloc _) rfl rfl true (by simp [sameB])).mono ?_
  rintro e w3 ⟨rfl, rfl⟩
  go_wp2_with fail
  refine (known_any _).mono ?_
  rintro e w4 ⟨rfl, hw4⟩
  go_wp2
  go_ret
  exact ⟨rfl, blw hw03 hw4⟩

namespace journalSums
open Go.ChangeShapes Go.WideShapes Go.ChangeAt Go.RowKit
theorem own : ownKnob Try.prog.godebug = none := by kernel_rfl
theorem laidOut : laidOutB Try.prog = true := by kernel_rfl

set_option maxRecDepth 100000 in
theorem lifted (os : Os) (started : os.Started) (H : Type) (enc : TypeId × Value → H) :
    ReturnsInHanded {} Try.checked os 3 .any (Rows.journalSumsSpec.pre6 enc Try.prog Try.f3 Rows.journalSumsRow.domain false) (Rows.journalSumsSpec.post enc Try.prog Try.f3 false true false false) := by
  refine returnsInHanded_of_change (C := Try.checked) own started (by kernel_rfl) Try.func3
    (ChangeSpec.witness6 (enc := enc) (C := Try.checked) false ⟨#[], #[.slice none 0 0], []⟩ 8 (by kernel_rfl) (by kernel_rfl) (by kernel_rfl) (by kernel_rfl)) ?_
  intro W base args ds gs before hval0 hW hcnd _
  have hval : ∀ (j : Nat) t v, Try.f3.params[j]? = some t → args[j]? = some v → Value.okWide Try.prog W .any base t v := hval0
  have hW' := hW
  obtain ⟨p, q, hA0, hV, rfl, hfz, hnd⟩ := hW
  have hA : DataW.TrodAll enc Try.prog W 0 (fun _ => true) true Try.f3.params.toList args.toList ds p := hA0
  rw [Try.params3] at hA hval
  obtain ⟨v0, vs0, d0, ds0, p0, q0, hargs, rfl, rfl, h0, r0⟩ := trodAll_cons hA
  obtain ⟨rfl, rfl, rfl⟩ := trodAll_nil r0
  obtain rfl : args = #[v0] := by cases args; simp_all
  obtain ⟨rfl, rfl⟩ := trodVars_none hV
  have k0 := h0
  have lt0 : ∀ x ∈ p0, x.block < W.heap.size := by obtain ⟨m, hm⟩ := k0; exact DataW.trod_lt m _ _ _ hm
  obtain ⟨A0, l0, c0, e0⟩ := okWide_slice Try.underlying22 (hval 0 22 v0 rfl rfl)
  obtain ⟨fuel0, hf0⟩ := h0
  rw [show v0.cells.toList = [v0] from by rw [e0]; rfl] at hf0
  clear e0 A0 l0 c0
  obtain ⟨A0, c0, z0, rfl, w0, b0⟩ := byts_arg hf0
  clear hA0 hval0
  refine (walk_JournalSums W A0 c0 z0 w0).mono fun e W' ⟨he, bel⟩ => ?_
  subst he
  exact ⟨_, rfl, _, _, _, [], _, [], hW', trodAll_mk1 (shut_bool Try.underlying4 _), (trodAll_cons_mk (Below.trod laidOut (by kernel_rfl) (of_decide_eq_true (by kernel_rfl)) k0 bel lt0) trodAll_mk0), rfl, bel.frame _, fun h => by cases h⟩

theorem over : Rows.journalSumsRow.holds Try.pinned (OpenSpec.ofChange Rows.journalSumsSpec) :=
  OpenClaim.holds_of_wide 3 Try.f3 rfl rfl rfl rfl rfl rfl rfl ⟨rfl, rfl, rfl, rfl, rfl⟩ rfl rfl rfl rfl rfl (by kernel_rfl) Try.func3 (by kernel_rfl)
    (of_decide_eq_true (by kernel_rfl)) (by unfold Func.isWrapper; first | (rw [if_pos (by decide +kernel)]; kernel_rfl) | (rw [if_neg (by decide +kernel)]; exact ⟨rfl, rfl⟩))
    (fun os started H enc _ => lifted os started H enc)

theorem proved : Rows.JournalSumsSaid := over
#print axioms proved
end journalSums
end Go.Proofs.Ytieeojigonbifaa
