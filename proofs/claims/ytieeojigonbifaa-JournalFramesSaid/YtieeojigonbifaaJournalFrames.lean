/- JournalFrames: for any two slices of bytes, and any uint16, the law returns true, and all read afterwards as before. No condition. -/
import Derived.Test.YtieeojigonbifaaRows
import Derived.Test.YtieeojigonbifaaJrnArg
import Derived.Test.YtieeojigonbifaaJrnScanAt
import Derived.WalkKit
import Derived.ProofKit
import Derived.OpenShut
import Derived.ShutString
import Derived.ChangeOld
import Derived.Below
namespace Go.Proofs.Ytieeojigonbifaa
open Go.ChangeShapes Go.WideShapes Go.ChangeAt Go.RowKit
set_option linter.unusedVariables false

set_option maxRecDepth 100000 in
set_option maxHeartbeats 1600000 in
theorem walk_JournalFrames (w : World) (A : Option Addr) (c : Nat) (xs : List Int) (h : Byts w (fun _ => True) A c xs) (B : Option Addr) (d : Nat) (ys : List Int) (h' : Byts w (fun _ => True) B d ys) (cut : Int) (wc : (Lit.int .u16 cut).wf = true) :
    Calls Try.prog 8 #[.slice A xs.length c, .slice B ys.length d, .int .u16 cut] w fun e w' => e = .returned (.bool true) ∧ Below w.heap.size w w' := by
  have hcap : xs.length ≤ 9223372036854775807 := Nat.le_trans h.cap h.top
  have hcap' : ys.length ≤ 9223372036854775807 := Nat.le_trans h'.cap h'.top
  have H := Lib.hid h; clear h
  have H' := Lib.hid h'; clear h'
  have hc0 := (wf_u16 wc).1
  have hc1 := (wf_u16 wc).2
  clear wc
  by_cases hlong : 1000 < xs.length
  · go_enter Try.func8, Try.ntmps8
    go_wp2_with fail
    refine (known_any _).mono ?_
    rintro e w' ⟨rfl, hw⟩
    go_wp2
    go_ret
    exact ⟨rfl, hw⟩
  by_cases hlong' : 1000 < ys.length
  · go_enter Try.func8, Try.ntmps8
    go_wp2_with fail
    refine (known_any _).mono ?_
    rintro e w' ⟨rfl, hw⟩
    go_wp2
    go_ret
    exact ⟨rfl, hw⟩
  obtain ⟨fa, efa⟩ : ∃ fr, frame xs = fr := ⟨_, rfl⟩
  obtain ⟨fb, efb⟩ : ∃ fr, frame ys = fr := ⟨_, rfl⟩
  have hfa : fa.length = 8 + xs.length := by rw [← efa, frame_len]
  have hfb : fb.length = 8 + ys.length := by rw [← efb, frame_len]
  have ne1 : ((fa.length : Int) != 8 + (xs.length : Int)) = false := by rw [bne_eq_false_iff_eq]; omega
  have hfa0 : 8 ≤ fa.length := by omega
  have hfa1 : fa.length ≤ 1008 := by omega
  have hfb1 : fb.length ≤ 1008 := by omega
  obtain ⟨k, hk⟩ : ∃ k : Nat, cut % (fa.length : Int) = (k : Int) := ⟨(cut % (fa.length : Int)).toNat, by have := Int.emod_nonneg cut (b := (fa.length : Int)) (by omega); omega⟩
  have hkl : k < fa.length := by have := Int.emod_lt_of_pos cut (b := (fa.length : Int)) (by omega); omega
  have HK := Lib.hid hk
  have HFA := Lib.hid hfa
  have HFB := Lib.hid hfb
  have EFA := Lib.hid efa
  have EFB := Lib.hid efb
  have hrx : xs.length ≤ 65536 := by omega
  have hry : ys.length ≤ 65536 := by omega
  have S1 : Hid (scan (fa ++ fb) = ([xs, ys], (fa ++ fb).length, 0)) := Lib.hid (by
    rw [← efa, ← efb, scan_frame hrx]
    have := scan_frame hry []
    rw [List.append_nil] at this
    rw [this]
    simp [scan_nil, frame_len])
  have S2 : Hid (scan (fa.take k) = ([], 0, if k = 0 then 0 else 31)) := Lib.hid (by
    by_cases k0 : k = 0
    · subst k0; simp [scan_nil]
    · rw [if_neg k0, ← efa, short_frame hrx (by omega) (by omega)])
  clear hfa hfb efa efb hrx hry
  go_enter Try.func8, Try.ntmps8
  go_wp2_with fail
  refine (frame_any _ _ _ _ xs _ H.out rfl (by omega)).mono ?_
  rw [EFA.out]
  rintro e w1 ⟨A1, c1, rfl, ho1, hw1⟩
  have HO1 := Lib.hid ho1; clear ho1
  go_wp2_with fail
  refine (frame_any _ _ _ _ ys _ (H'.out.below hw1) rfl (by omega)).mono ?_
  rw [EFB.out]
  rintro e w2 ⟨A2, c2, rfl, ho2, hw2⟩
  have HO2 := Lib.hid ho2; clear ho2
  have hw02 := blw hw1 hw2
  have HB1 := Lib.hid ((byts_of HO1.out).below hw2)
  have HB2 := Lib.hid (byts_of HO2.out)
  have hcap1 := HB1.out.cap
  have qc := run_cut_h A1 fa.length c1 k .i64 (k : Int) rfl (by omega)
  go_wp2_with (at_builtin; first
    | (refine wpList_appb rfl (.tmp 51) (.tmp 52) rfl w2.heap.size (.slice none 0 0) [] rfl (OwnB.nil _ _) A1 c1 fa.length (fun _ => True) fa rfl rfl HB1.out (by simp; omega) (Nat.le_refl _) ?_; intro l3 A3 c3 w3 el3 ho3 hg3 hb3 hw3; have EL3 := Lib.hid el3; clear el3; have hl3 : l3.length ≤ 1008 := (by rw [EL3.out]; simp; omega))
    | (refine wpList_appb rfl (.tmp 54) (.tmp 55) rfl w2.heap.size (.slice A3 l3.length c3) l3 rfl ho3 A2 c2 fb.length (fun _ => True) fb rfl rfl (HB2.out.below hw3) (by omega) hw3.size ?_; intro l4 A4 c4 w4 el4 ho4 hg4 hb4 hw4; have EL4 := Lib.hid el4; clear el4))
  have hw24 : Below w2.heap.size w2 w4 := hw3.trans hw4
  have hl4 : l4.length ≤ 2016 := by rw [EL4.out, List.length_append]; omega
  have e4 : l4 = fa ++ fb := by rw [EL4.out, EL3.out]; simp
  refine (scan_at _ _ _ _ l4 _ [xs, ys] l4.length 0 (byts_of ho4) rfl (by omega) (by rw [e4]; exact S1.out)).mono ?_
  clear e4
  rintro e w5 ⟨A5, c5, rfl, ho5, hw5⟩
  have HO5 := Lib.hid ho5; clear ho5
  have hw25 : Below w2.heap.size w2 w5 := blw hw24 hw5
  have hw05 := blw hw02 hw25
  clear ho4 ho3 hg3 hg4 hb3 hb4
  go_wp2_with fail
  refine (scan_at _ _ _ _ (fa.take k) _ [] 0 _ ((HB1.out.below hw25).take k) (by rw [List.length_take]; omega) (by omega) S2.out).mono ?_
  rintro e w6 ⟨A6, c6, rfl, ho6, hw6⟩
  have hw06 := blw hw05 hw6
  have HR5 := Lib.hid ((rws_new HO5.out).below hw6)
  clear ho6
  have HF : Hid (∀ (w7 : World), Below w6.heap.size w6 w7 → Below w.heap.size w w7) := Lib.hid fun w7 h7 => blw hw06 h7
  by_cases k0 : k = 0
  · subst k0
    simp only [if_true]
    go_wp2_with fail
    refine (rsameL_any _ _ _ _ _ _ _ _ [xs, ys] [xs, ys] _ (HR5.out.alloc _) (Rws.two (H.out.below hw06) (H'.out.below hw06) rfl rfl rfl trivial) rfl rfl true (by simp [sameL])).mono ?_
    rintro e w7 ⟨rfl, hw7⟩
    have hw07 := blw (hw06.alloc hw06.size _) hw7
    go_wp2_with fail
    refine (known_any _).mono ?_
    rintro e w8 ⟨rfl, hw8⟩
    go_wp2
    go_ret
    exact ⟨rfl, blw hw07 hw8⟩
  · rw [if_neg k0]
    go_wp2_with fail
    refine (rsameL_any _ _ _ _ _ _ _ _ [xs, ys] [xs, ys] _ (HR5.out.alloc _) (Rws.two (H.out.below hw06) (H'.out.below hw06) rfl rfl rfl trivial) rfl rfl true (by simp [sameL])).mono ?_
    rintro e w7 ⟨rfl, hw7⟩
    have hw07 := blw (hw06.alloc hw06.size _) hw7
    go_wp2_with fail
    refine (known_any _).mono ?_
    rintro e w8 ⟨rfl, hw8⟩
    go_wp2
    go_ret
    exact ⟨rfl, blw hw07 hw8⟩

namespace journalFrames
open Go.ChangeShapes Go.WideShapes Go.ChangeAt Go.RowKit
theorem own : ownKnob Try.prog.godebug = none := by kernel_rfl
theorem laidOut : laidOutB Try.prog = true := by kernel_rfl

set_option maxRecDepth 100000 in
theorem lifted (os : Os) (started : os.Started) (H : Type) (enc : TypeId × Value → H) :
    ReturnsInHanded {} Try.checked os 8 .any (Rows.journalFramesSpec.pre6 enc Try.prog Try.f8 Rows.journalFramesRow.domain false) (Rows.journalFramesSpec.post enc Try.prog Try.f8 false true false false) := by
  refine returnsInHanded_of_change (C := Try.checked) own started (by kernel_rfl) Try.func8
    (ChangeSpec.witness6 (enc := enc) (C := Try.checked) false ⟨#[], #[.slice none 0 0, .slice none 0 0, .int .u16 0], []⟩ 8 (by kernel_rfl) (by kernel_rfl) (by kernel_rfl) (by kernel_rfl)) ?_
  intro W base args ds gs before hval0 hW hcnd _
  have hval : ∀ (j : Nat) t v, Try.f8.params[j]? = some t → args[j]? = some v → Value.okWide Try.prog W .any base t v := hval0
  have hW' := hW
  obtain ⟨p, q, hA0, hV, rfl, hfz, hnd⟩ := hW
  have hA : DataW.TrodAll enc Try.prog W 0 (fun _ => true) true Try.f8.params.toList args.toList ds p := hA0
  rw [Try.params8] at hA hval
  obtain ⟨v0, vs0, d0, ds0, p0, q0, hargs, rfl, rfl, h0, r0⟩ := trodAll_cons hA
  obtain ⟨v1, vs1, d1, ds1, p1, q1, rfl, rfl, rfl, h1, r1⟩ := trodAll_cons r0
  obtain ⟨v2, vs2, d2, ds2, p2, q2, rfl, rfl, rfl, h2, r2⟩ := trodAll_cons r1
  obtain ⟨rfl, rfl, rfl⟩ := trodAll_nil r2
  obtain rfl : args = #[v0, v1, v2] := by cases args; simp_all
  obtain ⟨rfl, rfl⟩ := trodVars_none hV
  have k0 := h0
  have lt0 : ∀ x ∈ p0, x.block < W.heap.size := by obtain ⟨m, hm⟩ := k0; exact DataW.trod_lt m _ _ _ hm
  obtain ⟨A0, l0, c0, e0⟩ := okWide_slice Try.underlying22 (hval 0 22 v0 rfl rfl)
  obtain ⟨fuel0, hf0⟩ := h0
  rw [show v0.cells.toList = [v0] from by rw [e0]; rfl] at hf0
  clear e0 A0 l0 c0
  obtain ⟨A0, c0, z0, rfl, w0, b0⟩ := byts_arg hf0
  have k1 := h1
  have lt1 : ∀ x ∈ p1, x.block < W.heap.size := by obtain ⟨m, hm⟩ := k1; exact DataW.trod_lt m _ _ _ hm
  obtain ⟨A1, l1, c1, e1⟩ := okWide_slice Try.underlying22 (hval 1 22 v1 rfl rfl)
  obtain ⟨fuel1, hf1⟩ := h1
  rw [show v1.cells.toList = [v1] from by rw [e1]; rfl] at hf1
  clear e1 A1 l1 c1
  obtain ⟨A1, c1, z1, rfl, w1, b1⟩ := byts_arg hf1
  obtain ⟨a2, rfl, rfl, rfl, w2⟩ := open_int Try.underlying50 (hval 2 50 v2 rfl rfl) h2
  clear hA0 hval0
  refine (walk_JournalFrames W A0 c0 z0 w0 A1 c1 z1 w1 a2 w2).mono fun e W' ⟨he, bel⟩ => ?_
  subst he
  exact ⟨_, rfl, _, _, _, [], _, [], hW', trodAll_mk1 (shut_bool Try.underlying4 _), (trodAll_cons_mk (Below.trod laidOut (by kernel_rfl) (of_decide_eq_true (by kernel_rfl)) k0 bel lt0) (trodAll_cons_mk (Below.trod laidOut (by kernel_rfl) (of_decide_eq_true (by kernel_rfl)) k1 bel lt1) (trodAll_cons_mk (shut_int Try.underlying50 w2) trodAll_mk0))), rfl, bel.frame _, fun h => by cases h⟩

theorem over : Rows.journalFramesRow.holds Try.pinned (OpenSpec.ofChange Rows.journalFramesSpec) :=
  OpenClaim.holds_of_wide 8 Try.f8 rfl rfl rfl rfl rfl rfl rfl ⟨rfl, rfl, rfl, rfl, rfl⟩ rfl rfl rfl rfl rfl (by kernel_rfl) Try.func8 (by kernel_rfl)
    (of_decide_eq_true (by kernel_rfl)) (by unfold Func.isWrapper; first | (rw [if_pos (by decide +kernel)]; kernel_rfl) | (rw [if_neg (by decide +kernel)]; exact ⟨rfl, rfl⟩))
    (fun os started H enc _ => lifted os started H enc)

theorem proved : Rows.JournalFramesSaid := over
#print axioms proved
end journalFrames
end Go.Proofs.Ytieeojigonbifaa
