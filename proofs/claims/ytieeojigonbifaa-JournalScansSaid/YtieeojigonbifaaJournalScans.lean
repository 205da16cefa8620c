/- JournalScans: for any slice of bytes the law returns true, and it reads afterwards as before. No condition. -/
import Derived.Test.YtieeojigonbifaaRows
import Derived.Test.YtieeojigonbifaaJrnArg
import Derived.Test.YtieeojigonbifaaJrnRscan
import Derived.WalkKit
import Derived.ProofKit
import Derived.OpenShut
import Derived.ShutString
import Derived.ChangeOld
import Derived.Below
import Derived.Deep.RegionHeld3
namespace Go.Proofs.Ytieeojigonbifaa
open Go.ChangeShapes Go.WideShapes Go.ChangeAt Go.RowKit
set_option linter.unusedVariables false

set_option maxRecDepth 100000 in
set_option maxHeartbeats 3200000 in
theorem walk_JournalScans (w : World) (A : Option Addr) (c : Nat) (xs : List Int) (h : Byts w (fun _ => True) A c xs) :
    Calls Try.prog 4 #[.slice A xs.length c] w fun e w' => e = .returned (.bool true) ∧ Below w.heap.size w w' := by
  have hcap : xs.length ≤ 9223372036854775807 := Nat.le_trans h.cap h.top
  have hcap2 := h.cap
  have hbt := h.bts
  have H := Lib.hid h; clear h
  by_cases hlong : 2000 < xs.length
  · clear hbt
    go_enter Try.func4, Try.ntmps4
    go_wp2_with fail
    refine (known_any _).mono ?_
    rintro e w' ⟨rfl, hw⟩
    go_wp2
    go_ret
    exact ⟨rfl, hw⟩
  obtain ⟨rs, to, ev, hs⟩ : ∃ rs to ev, scan xs = (rs, to, ev) := ⟨_, _, _, rfl⟩
  have hsl := scan_le hbt hs
  have hto := hsl.1
  have hsp : scan (xs.take to) = (rs, to, 0) := by
    have := scan_part xs hbt
    rw [hs] at this
    exact this
  have hrs : rs.length ≤ 100000 := by
    have h3 : ∀ l : List (List Int), l.length ≤ sz l := by
      intro l
      induction l with
      | nil => simp [sz]
      | cons y l ih => simp only [sz, List.length_cons]; omega
    have h4 := h3 rs
    rw [hsl.2.2.2] at h4
    omega
  have HS := Lib.hid hs
  have HSP := Lib.hid hsp
  obtain ⟨y, hy⟩ : ∃ y, xs.take to = y := ⟨_, rfl⟩
  rw [hy] at HSP
  have hyl : y.length = to := by rw [← hy, List.length_take]; omega
  have HYL := Lib.hid hyl
  have HTK : Hid (∀ W, Byts W (fun _ => True) A c xs → Byts W (fun _ => True) A c y) := Lib.hid fun W hW => by rw [← hy]; exact hW.take _
  have HRS : Hid (sameL rs rs = true) := Lib.hid (by simp [sameL])
  have HSY : Hid (sameB y y = true) := Lib.hid (by simp [sameB])
  have qc := run_cut_h A xs.length c to .i64 (to : Int) rfl (by omega)
  obtain ⟨mm, hmm⟩ : ∃ mm : Int, (xs.length : Int) - (to : Int) = mm := ⟨_, rfl⟩
  have hwr : IntKind.i64.wrap ((xs.length : Int) - (to : Int)) = mm := by rw [IntKind.wrap_i64]; omega
  have HOP : Hid (∀ W : World, Byts W (fun _ => True) A c xs → Calls Try.prog 18 #[.slice A xs.length c] W (RetO W y rs.length mm ev)) := Lib.hid fun W hW => by
    have := open_any _ A c xs.length xs W rs to ev mm hW rfl (by omega) hs hmm
    rw [hy] at this
    exact this
  have hyl4 : y.length ≤ 4194304 := by omega
  clear hs hsl hsp hbt hy hyl hmm
  go_enter Try.func4, Try.ntmps4
  go_wp2_with fail
  refine (scan_at _ _ _ _ xs _ rs to ev H.out rfl (by omega) HS.out).mono ?_
  rintro e w1 ⟨A1, c1, rfl, ho1, hw1⟩
  have HO1 := Lib.hid (rws_new ho1); clear ho1
  have HB1 := Lib.hid (H.out.below hw1)
  go_wp2_with fail
  have hrsc := rscan_any xs.length _ A c xs.length xs w1 HB1.out rfl (Nat.le_refl _) (by omega)
  rw [HS.out] at hrsc
  refine hrsc.mono ?_
  clear hrsc
  rintro e w2 ⟨A2, c2, rfl, ho2, hw2⟩
  have HO2 := Lib.hid (rws_new ho2); clear ho2
  have HB2 := Lib.hid (HB1.out.below hw2)
  have HW2 := Lib.hid (blw hw1 hw2)
  have HO12 := Lib.hid (HO1.out.below hw2)
  go_wp2_with fail
  refine (HOP.out _ HB2.out).mono ?_
  rintro e w3 ⟨g3, v3, rfl, hj3, hw3⟩
  have HJ3 := Lib.hid hj3; clear hj3
  have HW3 := Lib.hid (blw HW2.out hw3)
  have HO13 := Lib.hid (HO12.out.below hw3)
  have HO23 := Lib.hid (HO2.out.below hw3)
  go_wp2_with fail
  have H13d : Hid (Rws w3.drew _ A1 c1 rs) := Lib.hid (HO13.out.keep fun _ _ _ => rfl)
  have H23d : Hid (Rws w3.drew _ A2 c2 rs) := Lib.hid (HO23.out.keep fun _ _ _ => rfl)
  have HJ3d : Hid (Jrn w3.drew w2.heap.size g3 v3 y rs.length) := Lib.hid (HJ3.out.keep fun _ _ _ => rfl)
  have HW3d := Lib.hid HW3.out.drew
  go_region_held3 (fun _ => True) (exact trivial) (first
    | (go_at_call_of 19 A1
       refine (rsameL_any _ _ _ _ _ _ _ _ rs rs _ H13d.out H23d.out rfl rfl true HRS.out).mono ?_
       rintro e w4 ⟨rfl, hw4⟩
       have HJ4 := Lib.hid (HJ3d.out.below hw4)
       have HW4 := Lib.hid (blw HW3d.out hw4)
       have HO24 := Lib.hid (H23d.out.below hw4))
    | (go_at_call 20
       refine (records_any _ _ _ _ y _ rs to 0 HJ4.out hyl4 HSP.out).mono ?_
       rintro e w5 ⟨A5, c5, rfl, ho5, hw5⟩
       have HO5 := Lib.hid (rws_new ho5)
       clear ho5
       have HJ5 := Lib.hid (HJ4.out.below hw5)
       have HW5 := Lib.hid (blw HW4.out hw5)
       have HO25 := Lib.hid (HO24.out.below hw5))
    | (go_at_call 19
       refine (rsameL_any _ _ _ _ _ _ _ _ rs rs _ HO5.out HO25.out rfl rfl true HRS.out).mono ?_
       rintro e w6 ⟨rfl, hw6⟩
       have HJ6 := Lib.hid (HJ5.out.below hw6)
       have HW6 := Lib.hid (blw HW5.out hw6))
    | (go_at_call 21
       refine (len_any _ _ _ _ _ _ HJ6.out).mono ?_
       rintro e w7 ⟨rfl, rfl⟩)
    | (go_at_call 22
       refine (bytes_any _ _ _ _ y _ HJ6.out (by omega)).mono ?_
       rintro e w7 ⟨A7, c7, rfl, ho7, hw7⟩
       have HO7 := Lib.hid (byts_of ho7)
       clear ho7
       have HW7 := Lib.hid (blw HW6.out hw7)
       have HB7 := Lib.hid (HTK.out _ (H.out.below HW7.out)))
    | (go_at_call 15
       refine (rsame_any _ _ _ _ _ _ _ _ y y _ HO7.out HB7.out rfl HYL.out true HSY.out).mono ?_
       rintro e w8 ⟨rfl, rfl⟩)
    | (go_at_call 10
       refine (known_any _).mono ?_
       rintro e w8 ⟨rfl, hw8⟩))
  all_goals go_wp2
  all_goals go_ret
  all_goals exact ⟨rfl, blw HW7.out hw8⟩

namespace journalScans
open Go.ChangeShapes Go.WideShapes Go.ChangeAt Go.RowKit
theorem own : ownKnob Try.prog.godebug = none := by kernel_rfl
theorem laidOut : laidOutB Try.prog = true := by kernel_rfl

set_option maxRecDepth 100000 in
theorem lifted (os : Os) (started : os.Started) (H : Type) (enc : TypeId × Value → H) :
    ReturnsInHanded {} Try.checked os 4 .any (Rows.journalScansSpec.pre6 enc Try.prog Try.f4 Rows.journalScansRow.domain false) (Rows.journalScansSpec.post enc Try.prog Try.f4 false true false false) := by
  refine returnsInHanded_of_change (C := Try.checked) own started (by kernel_rfl) Try.func4
    (ChangeSpec.witness6 (enc := enc) (C := Try.checked) false ⟨#[], #[.slice none 0 0], []⟩ 8 (by kernel_rfl) (by kernel_rfl) (by kernel_rfl) (by kernel_rfl)) ?_
  intro W base args ds gs before hval0 hW hcnd _
  have hval : ∀ (j : Nat) t v, Try.f4.params[j]? = some t → args[j]? = some v → Value.okWide Try.prog W .any base t v := hval0
  have hW' := hW
  obtain ⟨p, q, hA0, hV, rfl, hfz, hnd⟩ := hW
  have hA : DataW.TrodAll enc Try.prog W 0 (fun _ => true) true Try.f4.params.toList args.toList ds p := hA0
  rw [Try.params4] at hA hval
  obtain ⟨v0, vs0, d0, ds0, p0, q0, hargs, rfl, rfl, h0, r0⟩ := trodAll_cons hA
  obtain ⟨rfl, rfl, rfl⟩ := trodAll_nil r0
  obtain rfl : args = #[v0] := by cases args; simp_all
  obtain ⟨rfl, rfl⟩ := trodVars_none hV
  have k0 := h0
  have lt0 : ∀ x ∈ p0, x.block < W.heap.size := by obtain ⟨m, hm⟩ := k0; exact DataW.trod_lt m _ _ _ hm
  obtain ⟨A0, l0, c0, e0⟩ := okWide_slice Try.underlying22 (hval 0 22 v0 rfl rfl)
  obtain ⟨fuel0, hf0⟩ := h0
  rw [show v0.cells.toList = [v0] from by rw [e0]; rfl] at hf0
  clear e0 A0 l0 c0
  obtain ⟨A0, c0, z0, rfl, w0, b0⟩ := byts_arg hf0
  clear hA0 hval0
  refine (walk_JournalScans W A0 c0 z0 w0).mono fun e W' ⟨he, bel⟩ => ?_
  subst he
  exact ⟨_, rfl, _, _, _, [], _, [], hW', trodAll_mk1 (shut_bool Try.underlying4 _), (trodAll_cons_mk (Below.trod laidOut (by kernel_rfl) (of_decide_eq_true (by kernel_rfl)) k0 bel lt0) trodAll_mk0), rfl, bel.frame _, fun h => by cases h⟩

theorem over : Rows.journalScansRow.holds Try.pinned (OpenSpec.ofChange Rows.journalScansSpec) :=
  OpenClaim.holds_of_wide 4 Try.f4 rfl rfl rfl rfl rfl rfl rfl ⟨rfl, rfl, rfl, rfl, rfl⟩ rfl rfl rfl rfl rfl (by kernel_rfl) Try.func4 (by kernel_rfl)
    (of_decide_eq_true (by kernel_rfl)) (by unfold Func.isWrapper; first | (rw [if_pos (by decide +kernel)]; kernel_rfl) | (rw [if_neg (by decide +kernel)]; exact ⟨rfl, rfl⟩))
    (fun os started H enc _ => lifted os started H enc)

theorem proved : Rows.JournalScansSaid := over
#print axioms proved
end journalScans
end Go.Proofs.Ytieeojigonbifaa
