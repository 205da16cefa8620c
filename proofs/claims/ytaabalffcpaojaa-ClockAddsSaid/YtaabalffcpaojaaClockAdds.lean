/- ClockAdds: for any int and any slice of ints the law returns true, and both read afterwards as before. No condition. -/
import Derived.Test.YtaabalffcpaojaaRows
import Derived.Test.YtaabalffcpaojaaClkApp
import Derived.WalkKit
import Derived.ProofKit
import Derived.OpenShut
import Derived.ShutString
import Derived.ChangeOld
import Derived.Below
import Derived.Outline
namespace Go.Proofs.Ytaabalffcpaojaa
open Go.ChangeShapes Go.WideShapes Go.ChangeAt Go.RowKit
open Go.ChangeMaps (open_string shut_string)
set_option linter.unusedVariables false

set_option maxHeartbeats 1600000 in
theorem walk_ClockAdds (w : World) (t : Int) (wt : (Lit.int .i64 t).wf = true) (A : Option Addr) (c : Nat) (zs : List Int) (hz : Ints w A zs) (hl : zs.length ≤ maxLen) (hw : ∀ x ∈ zs, (Lit.int .i64 x).wf = true) (hn : A = none → c = 0) :
    Calls Try.prog 3 #[.int .i64 t, .slice A zs.length c] w fun e w' => e = .returned (.bool true) ∧ Below w.heap.size w w' := by
  have HZ := Lib.hid hz
  have HL := Lib.hid hl
  have HN := Lib.hid hn
  clear hz hw hn wt
  unfold maxLen at hl
  by_cases hlen : 200 < zs.length
  · go_enter Try.func3, Try.ntmps3
    go_wp2_with fail
    refine (known_any _).mono ?_
    rintro e w1 ⟨rfl, hb1⟩
    go_wp2_with fail
    go_ret
    exact ⟨rfl, hb1⟩
  · obtain ⟨v, hv⟩ : ∃ v, addV (t :: zs) = v := ⟨_, rfl⟩
    obtain ⟨e0, he⟩ : ∃ e0, addE (t :: zs) = e0 := ⟨_, rfl⟩
    obtain ⟨u, hu⟩ : ∃ u, clipA (t :: zs) = u := ⟨_, rfl⟩
    have HV := Lib.hid hv
    have HE := Lib.hid he
    have HU := Lib.hid hu
    clear hv he hu
    go_enter Try.func3, Try.ntmps3
    go_wp2_with (at_builtin; refine wpList_app rfl (.tmp 16) (.tmp 17) rfl w.heap.size _ [t] rfl (OwnInts.lit w _ (Nat.le_refl _) [t] (by simp [maxLen])) A c _ zs rfl rfl ((HZ.out).below ((Below.refl _ _).alloc (Nat.le_refl _) _)) HN.out (by simp; omega) (by simp) ?_; intro l A1 c1 w1 hl1 hI hO hb; have HL1 := Lib.hid hl1; clear hl1; have HI := Lib.hid hI; clear hI; have HO := Lib.hid hO; clear hO)
    have hbw : Below w.heap.size w w1 := ((Below.refl _ _).alloc (Nat.le_refl _) _).trans hb
    have HLL := Lib.hid (show l.length ≤ maxLen from by rw [HL1.out]; simp [maxLen]; omega)
    go_wp2_with fail
    refine (addL_at _ _ _ _ _ (HZ.out.below hbw) HL.out _ _ HV.out HE.out).mono ?_
    rintro e w' ⟨rfl, rfl⟩
    go_wp2_with fail
    refine (raddL_at _ _ _ _ HI.out HLL.out v e0 (by rw [HL1.out]; exact HV.out) (by rw [HL1.out]; exact HE.out)).mono ?_
    rintro e w' ⟨rfl, rfl⟩
    go_wp2_with fail
    refine (clipL_at _ _ _ _ _ (HZ.out.below hbw) HL.out _ HU.out).mono ?_
    rintro e w' ⟨rfl, rfl⟩
    go_wp2_with fail
    refine (rclipL_at _ _ _ _ HI.out HLL.out u (by rw [HL1.out]; exact HU.out)).mono ?_
    rintro e w' ⟨rfl, rfl⟩
    go_wp2_with fail
    refine (known_any _).mono ?_
    rintro e w2 ⟨rfl, hb2⟩
    go_wp2_with fail
    go_ret
    exact ⟨rfl, blw hbw hb2⟩

namespace clockAdds
theorem own : ownKnob Try.prog.godebug = none := by kernel_rfl
theorem laidOut : laidOutB Try.prog = true := by kernel_rfl

set_option maxRecDepth 100000 in
theorem lifted (os : Os) (started : os.Started) (H : Type) (enc : TypeId × Value → H) :
    ReturnsInHanded {} Try.checked os 3 .any (Rows.clockAddsSpec.pre6 enc Try.prog Try.f3 Rows.clockAddsRow.domain false) (Rows.clockAddsSpec.post enc Try.prog Try.f3 false true false false) := by
  refine returnsInHanded_of_change (C := Try.checked) own started (by kernel_rfl) Try.func3
    (ChangeSpec.witness6 (enc := enc) (C := Try.checked) false ⟨#[], #[.int .i64 0, .slice none 0 0], []⟩ 8 (by kernel_rfl) (by kernel_rfl) (by kernel_rfl) (by kernel_rfl)) ?_
  intro W base args ds gs before hval0 hW hcnd _
  have hval : ∀ (j : Nat) t v, Try.f3.params[j]? = some t → args[j]? = some v → Value.okWide Try.prog W .any base t v := hval0
  have hW' := hW
  obtain ⟨p, q, hA0, hV, rfl, hfz, hnd⟩ := hW
  have hA : DataW.TrodAll enc Try.prog W 0 (fun _ => true) true Try.f3.params.toList args.toList ds p := hA0
  rw [Try.params3] at hA hval
  obtain ⟨v0, vs0, d0, ds0, p0, q0, hargs, rfl, rfl, h0, r0⟩ := trodAll_cons hA
  obtain ⟨v1, vs1, d1, ds1, p1, q1, rfl, rfl, rfl, h1, r1⟩ := trodAll_cons r0
  obtain ⟨rfl, rfl, rfl⟩ := trodAll_nil r1
  obtain rfl : args = #[v0, v1] := by cases args; simp_all
  obtain ⟨rfl, rfl⟩ := trodVars_none hV
  obtain ⟨a0, rfl, rfl, rfl, w0⟩ := open_int Try.underlying3 (hval 0 3 v0 rfl rfl) h0
  obtain ⟨a1, len1, c1, rfl⟩ := okWide_slice Try.underlying22 (hval 1 22 v1 rfl rfl)
  have k1 := h1
  have lt1 : ∀ x ∈ p1, x.block < W.heap.size := by obtain ⟨m, hm⟩ := k1; exact DataW.trod_lt m _ _ _ hm
  obtain ⟨z1, rfl, w1, m1, e1, n1⟩ : ∃ zs : List Int, zs.length = len1 ∧ Ints W a1 zs ∧ zs.length ≤ maxLen ∧ (∀ x ∈ zs, (Lit.int .i64 x).wf = true) ∧ (a1 = none → c1 = 0) := by
    obtain ⟨fuel, hf⟩ := h1
    rcases open_ints Try.underlying22 Try.underlying3 (by kernel_rfl) hf with ⟨hcs, _⟩ | ⟨x, l, c, zs, hcs, _, hl, hm, hz, _, hcell, hwz⟩
    · simp [Value.cells] at hcs
      obtain ⟨rfl, rfl, rfl⟩ := hcs
      exact ⟨[], rfl, Ints.none_, by simp [maxLen], fun x h => by simp at h, fun _ => rfl⟩
    · simp [Value.cells] at hcs
      obtain ⟨rfl, rfl, rfl⟩ := hcs
      simp only [if_true] at hz
      exact ⟨zs.take len1, by rw [List.length_take]; omega, ints_of hcell _, by rw [List.length_take]; omega, fun x h => hwz x (List.mem_of_mem_take h), fun h => by cases h⟩
  clear hA0 hval0
  refine (walk_ClockAdds W a0 w0 a1 c1 z1 w1 m1 e1 n1).mono fun e W' ⟨he, bel⟩ => ?_
  subst he
  exact ⟨_, rfl, _, _, _, [], _, [], hW', trodAll_mk1 (shut_bool Try.underlying4 _), (trodAll_cons_mk (shut_int Try.underlying3 w0) (trodAll_cons_mk (Below.trod laidOut (by kernel_rfl) (of_decide_eq_true (by kernel_rfl)) k1 bel lt1) trodAll_mk0)), rfl, bel.frame _, fun h => by cases h⟩

theorem over : Rows.clockAddsRow.holds Try.pinned (OpenSpec.ofChange Rows.clockAddsSpec) :=
  OpenClaim.holds_of_wide 3 Try.f3 rfl rfl rfl rfl rfl rfl rfl ⟨rfl, rfl, rfl, rfl, rfl⟩ rfl rfl rfl rfl rfl (by kernel_rfl) Try.func3 (by kernel_rfl)
    (of_decide_eq_true (by kernel_rfl)) (by unfold Func.isWrapper; first | (rw [if_pos (by decide +kernel)]; kernel_rfl) | (rw [if_neg (by decide +kernel)]; exact ⟨rfl, rfl⟩))
    (fun os started H enc _ => lifted os started H enc)

theorem proved : Rows.ClockAddsSaid := over
#print axioms proved
end clockAdds
end Go.Proofs.Ytaabalffcpaojaa
