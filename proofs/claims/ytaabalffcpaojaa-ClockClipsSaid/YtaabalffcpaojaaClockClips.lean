/- ClockClips: for any int, any slice of ints and any int the law returns true, and all read afterwards as before. No condition. -/
import Derived.Test.YtaabalffcpaojaaRows
import Derived.Test.YtaabalffcpaojaaClkApp
import Derived.WalkKit
import Derived.ProofKit
import Derived.OpenShut
import Derived.ShutString
import Derived.ChangeOld
import Derived.Below
import Derived.Outline
namespace Go.Proofs.Ytaabalffcpaojaa
open Go.ChangeShapes Go.WideShapes Go.ChangeAt Go.RowKit
open Go.ChangeMaps (open_string shut_string)
set_option linter.unusedVariables false

theorem clip_more (t : Int) (zs : List Int) (u : Int) : clipA (t :: zs) ≤ clipA (t :: (zs ++ [u])) := by
  rw [clipA_cons, clipA_cons, clipL_snoc]
  have b := one_bd t
  have h := clipL_bd zs (one t) b.1 b.2
  have hu := one_bd u
  generalize clipL (one t) zs = s at h
  generalize one u = x at hu
  unfold one
  split <;> (try split) <;> omega

set_option maxHeartbeats 1600000 in
theorem walk_ClockClips (w : World) (t : Int) (wt : (Lit.int .i64 t).wf = true) (A : Option Addr) (c : Nat) (zs : List Int) (hz : Ints w A zs) (hl : zs.length ≤ maxLen) (hw : ∀ x ∈ zs, (Lit.int .i64 x).wf = true) (hn : A = none → c = 0) (u : Int) (wu : (Lit.int .i64 u).wf = true) :
    Calls Try.prog 9 #[.int .i64 t, .slice A zs.length c, .int .i64 u] w fun e w' => e = .returned (.bool true) ∧ Below w.heap.size w w' := by
  have HZ := Lib.hid hz
  have HL := Lib.hid hl
  have HN := Lib.hid hn
  clear hz hw hn wt wu
  unfold maxLen at hl
  by_cases hlen : 200 < zs.length
  · go_enter Try.func9, Try.ntmps9
    go_wp2_with fail
    refine (known_any _).mono ?_
    rintro e w1 ⟨rfl, hb1⟩
    go_wp2_with fail
    go_ret
    exact ⟨rfl, hb1⟩
  · have hmore := clip_more t zs u
    obtain ⟨v, hv⟩ : ∃ v, clipA (t :: zs) = v := ⟨_, rfl⟩
    obtain ⟨m, hm⟩ : ∃ m, clipA (t :: (zs ++ [u])) = m := ⟨_, rfl⟩
    have bv := clipL_bd (t :: zs) 0 (by omega) (by omega)
    have hT : isT v = true := by rw [← hv]; exact isT_yes bv.1 bv.2
    rw [hv, hm] at hmore
    have HV := Lib.hid hv
    have HM := Lib.hid hm
    clear hv hm bv
    go_enter Try.func9, Try.ntmps9
    go_wp2_with (at_builtin; refine wpList_app rfl (.tmp 16) (.tmp 17) rfl w.heap.size _ [t] rfl (OwnInts.lit w _ (Nat.le_refl _) [t] (by simp [maxLen])) A c _ zs rfl rfl ((HZ.out).below ((Below.refl _ _).alloc (Nat.le_refl _) _)) HN.out (by simp; omega) (by simp) ?_; intro l A1 c1 w1 hl1 hI hO hb; have HL1 := Lib.hid hl1; clear hl1; have HI := Lib.hid hI; clear hI; clear hO)
    have hbw : Below w.heap.size w w1 := ((Below.refl _ _).alloc (Nat.le_refl _) _).trans hb
    have HLL := Lib.hid (show l.length ≤ maxLen from by rw [HL1.out]; simp [maxLen]; omega)
    go_wp2_with fail
    refine (clipL_at _ _ _ _ _ (HZ.out.below hbw) HL.out _ HV.out).mono ?_
    rintro e w' ⟨rfl, rfl⟩
    go_wp2_with (first | (at_builtin; refine wpList_app rfl (.tmp 22) (.tmp 23) rfl w1.heap.size _ [] rfl (OwnInts.nil _ _) A c _ zs rfl rfl (HZ.out.below hbw) HN.out (by simp; omega) (Nat.le_refl _) ?_; intro l2 A2 c2 w2 hl2 hI2 hO2 hb2; have HL2 := Lib.hid hl2; clear hl2; clear hI2; have HO2 := Lib.hid hO2; clear hO2) | (at_builtin; refine wpList_app rfl (.tmp 25) (.tmp 27) rfl w1.heap.size _ l2 rfl (HO2.out.alloc _) (some ⟨w2.heap.size, 0, none⟩) 1 1 [u] rfl rfl (ints_new w2 [u] _) (fun h => by cases h) (by rw [HL2.out]; simp; omega) (by simp; have := hb2.size; omega) ?_; intro l3 A3 c3 w3 hl3 hI3 hO3 hb3; have HL3 := Lib.hid hl3; clear hl3; have HI3 := Lib.hid hI3; clear hI3; clear hO3))
    have hbw2 : Below w1.heap.size w1 w3 := ((hb2.alloc hb2.size _).trans hb3)
    have HLL3 := Lib.hid (show l3.length ≤ maxLen from by rw [HL3.out, HL2.out]; simp [maxLen]; omega)
    have HM3 := Lib.hid (show clipA (t :: l3) = m from by rw [HL3.out, HL2.out]; exact HM.out)
    go_wp2_with fail
    refine (rclipL_at _ _ _ _ (HI.out.below hbw2) HLL.out v (by rw [HL1.out]; exact HV.out)).mono ?_
    rintro e w' ⟨rfl, rfl⟩
    go_wp2_with fail
    refine (is_any _ _).mono ?_
    rintro e w' ⟨rfl, rfl⟩
    go_wp2_with fail
    refine (clipL_at _ _ _ _ _ HI3.out HLL3.out _ HM3.out).mono ?_
    rintro e w' ⟨rfl, rfl⟩
    go_wp2_with fail
    refine (known_any _).mono ?_
    rintro e w4 ⟨rfl, hb4⟩
    go_wp2_with fail
    go_ret
    exact ⟨rfl, blw (blw hbw hbw2) hb4⟩

namespace clockClips
theorem own : ownKnob Try.prog.godebug = none := by kernel_rfl
theorem laidOut : laidOutB Try.prog = true := by kernel_rfl

set_option maxRecDepth 100000 in
theorem lifted (os : Os) (started : os.Started) (H : Type) (enc : TypeId × Value → H) :
    ReturnsInHanded {} Try.checked os 9 .any (Rows.clockClipsSpec.pre6 enc Try.prog Try.f9 Rows.clockClipsRow.domain false) (Rows.clockClipsSpec.post enc Try.prog Try.f9 false true false false) := by
  refine returnsInHanded_of_change (C := Try.checked) own started (by kernel_rfl) Try.func9
    (ChangeSpec.witness6 (enc := enc) (C := Try.checked) false ⟨#[], #[.int .i64 0, .slice none 0 0, .int .i64 0], []⟩ 8 (by kernel_rfl) (by kernel_rfl) (by kernel_rfl) (by kernel_rfl)) ?_
  intro W base args ds gs before hval0 hW hcnd _
  have hval : ∀ (j : Nat) t v, Try.f9.params[j]? = some t → args[j]? = some v → Value.okWide Try.prog W .any base t v := hval0
  have hW' := hW
  obtain ⟨p, q, hA0, hV, rfl, hfz, hnd⟩ := hW
  have hA : DataW.TrodAll enc Try.prog W 0 (fun _ => true) true Try.f9.params.toList args.toList ds p := hA0
  rw [Try.params9] at hA hval
  obtain ⟨v0, vs0, d0, ds0, p0, q0, hargs, rfl, rfl, h0, r0⟩ := trodAll_cons hA
  obtain ⟨v1, vs1, d1, ds1, p1, q1, rfl, rfl, rfl, h1, r1⟩ := trodAll_cons r0
  obtain ⟨v2, vs2, d2, ds2, p2, q2, rfl, rfl, rfl, h2, r2⟩ := trodAll_cons r1
  obtain ⟨rfl, rfl, rfl⟩ := trodAll_nil r2
  obtain rfl : args = #[v0, v1, v2] := by cases args; simp_all
  obtain ⟨rfl, rfl⟩ := trodVars_none hV
  obtain ⟨a0, rfl, rfl, rfl, w0⟩ := open_int Try.underlying3 (hval 0 3 v0 rfl rfl) h0
  obtain ⟨a1, len1, c1, rfl⟩ := okWide_slice Try.underlying22 (hval 1 22 v1 rfl rfl)
  have k1 := h1
  have lt1 : ∀ x ∈ p1, x.block < W.heap.size := by obtain ⟨m, hm⟩ := k1; exact DataW.trod_lt m _ _ _ hm
  obtain ⟨z1, rfl, w1, m1, e1, n1⟩ : ∃ zs : List Int, zs.length = len1 ∧ Ints W a1 zs ∧ zs.length ≤ maxLen ∧ (∀ x ∈ zs, (Lit.int .i64 x).wf = true) ∧ (a1 = none → c1 = 0) := by
    obtain ⟨fuel, hf⟩ := h1
    rcases open_ints Try.underlying22 Try.underlying3 (by kernel_rfl) hf with ⟨hcs, _⟩ | ⟨x, l, c, zs, hcs, _, hl, hm, hz, _, hcell, hwz⟩
    · simp [Value.cells] at hcs
      obtain ⟨rfl, rfl, rfl⟩ := hcs
      exact ⟨[], rfl, Ints.none_, by simp [maxLen], fun x h => by simp at h, fun _ => rfl⟩
    · simp [Value.cells] at hcs
      obtain ⟨rfl, rfl, rfl⟩ := hcs
      simp only [if_true] at hz
      exact ⟨zs.take len1, by rw [List.length_take]; omega, ints_of hcell _, by rw [List.length_take]; omega, fun x h => hwz x (List.mem_of_mem_take h), fun h => by cases h⟩
  obtain ⟨a2, rfl, rfl, rfl, w2⟩ := open_int Try.underlying3 (hval 2 3 v2 rfl rfl) h2
  clear hA0 hval0
  refine (walk_ClockClips W a0 w0 a1 c1 z1 w1 m1 e1 n1 a2 w2).mono fun e W' ⟨he, bel⟩ => ?_
  subst he
  exact ⟨_, rfl, _, _, _, [], _, [], hW', trodAll_mk1 (shut_bool Try.underlying4 _), (trodAll_cons_mk (shut_int Try.underlying3 w0) (trodAll_cons_mk (Below.trod laidOut (by kernel_rfl) (of_decide_eq_true (by kernel_rfl)) k1 bel lt1) (trodAll_cons_mk (shut_int Try.underlying3 w2) trodAll_mk0))), rfl, bel.frame _, fun h => by cases h⟩

theorem over : Rows.clockClipsRow.holds Try.pinned (OpenSpec.ofChange Rows.clockClipsSpec) :=
  OpenClaim.holds_of_wide 9 Try.f9 rfl rfl rfl rfl rfl rfl rfl ⟨rfl, rfl, rfl, rfl, rfl⟩ rfl rfl rfl rfl rfl (by kernel_rfl) Try.func9 (by kernel_rfl)
    (of_decide_eq_true (by kernel_rfl)) (by unfold Func.isWrapper; first | (rw [if_pos (by decide +kernel)]; kernel_rfl) | (rw [if_neg (by decide +kernel)]; exact ⟨rfl, rfl⟩))
    (fun os started H enc _ => lifted os started H enc)

theorem proved : Rows.ClockClipsSaid := over
#print axioms proved
end clockClips
end Go.Proofs.Ytaabalffcpaojaa
