/- DagFar: for any slice of slices of int and any slice of int, the law returns true, and all read afterwards as before. The library's table of 64 numbers is as the card ties it. -/
import Derived.Test.YtaokbjacfdipmaaDoorRows
import Derived.Test.YtaokbjacfdipmaaDoorCards
import Derived.Test.YtaokbjacfdipmaaDoorTie
import Derived.Test.YtaokbjacfdipmaaDoorDagArg
import Derived.Test.YtaokbjacfdipmaaDoorDagRFar
import Derived.WalkKit
import Derived.ProofKit
import Derived.OpenShut
import Derived.ChangeOld
import Derived.Below
import Derived.SevenTiedAt
namespace Go.Proofs.YtaokbjacfdipmaaDoor
open Go.ChangeShapes Go.WideShapes Go.ChangeAt Go.RowKit Go.Lib
set_option linter.unusedVariables false

theorem far_ab {E : List (List Int)} (hE : Valid E) (l : List Int) (u : Nat) : FarP (fro E) l u ↔ FarB E l true u := by
  unfold FarP FarB
  rw [fro_len]
  constructor
  · rintro ⟨s, h1, h2, h3⟩
    exact ⟨s, h1, h2, h3.mono fun x y h => (arc_fro.1 h).2⟩
  · rintro ⟨s, h1, h2, h3⟩
    exact ⟨s, h1, h2, h3.mono fun x y h => arc_fro.2 ⟨hE.arc h, h⟩⟩
theorem far_be {E : List (List Int)} (hE : Valid E) (l : List Int) (u : Nat) : FarP (rev E) l u ↔ FarB E l false u := by
  unfold FarP FarB
  rw [rev_len]
  constructor
  · rintro ⟨s, h1, h2, h3⟩
    exact ⟨s, h1, h2, h3.flip fun x y h => ((arc_rev (by have := arc_lt h; rwa [rev_len] at this)).1 h).2⟩
  · rintro ⟨s, h1, h2, h3⟩
    exact ⟨s, h1, h2, h3.flip fun x y h => (arc_rev (hE.arc h)).2 ⟨arc_lt h, h⟩⟩
theorem filt_same {n : Nat} {p q : Nat → Bool} {P Q : Nat → Prop} (hp : ∀ u, u < n → (p u = true ↔ P u)) (hq : ∀ u, u < n → (q u = true ↔ Q u)) (h : ∀ u, P u ↔ Q u) : num ((List.range n).filter p) = num ((List.range n).filter q) := by
  congr 1
  apply List.filter_congr
  intro u hu
  have hun := List.mem_range.1 hu
  rw [Bool.eq_iff_iff, hp u hun, hq u hun, h]

set_option maxRecDepth 100000 in
set_option maxHeartbeats 1600000 in
theorem walk_DagFar (w : World) (hT : Tab w) (A : Option Addr) (c : Nat) (E : List (List Int)) (h : IRows w A c E) (hz : ∀ l ∈ E, l.length ≤ 140737488355328) (Al : Option Addr) (cl : Nat) (l : List Int) (hl : Ints w Al cl l) :
    Calls Tryd.prog 4 #[.slice A E.length c, .slice Al l.length cl] w fun e w' => e = .returned (.bool true) ∧ Below w.heap.size w w' := by
  have HT := Lib.hid hT; have H := Lib.hid h; have HZ := Lib.hid hz; have HLI := Lib.hid hl
  clear hT h hz hl
  by_cases hbig : 30 < E.length
  · go_enter Tryd.func4, Tryd.ntmps4
    go_wp2_with fail
    refine (long_many E _ _ _ H.out hbig).mono ?_
    rintro e w1 ⟨rfl, rfl⟩
    go_wp2_with fail
    refine (known_any _ HT.out).mono ?_
    rintro e w2 ⟨rfl, hb⟩
    go_wp2
    go_ret
    exact ⟨rfl, hb⟩
  have hn : E.length ≤ 30 := by omega
  clear hbig
  by_cases hs : 100 < sumL E
  · have HS : Hid (decide (100 < sumL E) = true) := Lib.hid (decide_eq_true hs)
    clear hs
    go_enter Tryd.func4, Tryd.ntmps4
    go_wp2_with fail
    refine (long_few E _ _ _ H.out hn HZ.out true HS.out).mono ?_
    rintro e w1 ⟨rfl, rfl⟩
    go_wp2_with fail
    refine (known_any _ HT.out).mono ?_
    rintro e w2 ⟨rfl, hb⟩
    go_wp2
    go_ret
    exact ⟨rfl, hb⟩
  have HS : Hid (decide (100 < sumL E) = false) := Lib.hid (decide_eq_false hs)
  clear hs
  by_cases hll : 30 < l.length
  · go_enter Tryd.func4, Tryd.ntmps4
    go_wp2_with fail
    refine (long_few E _ _ _ H.out hn HZ.out false HS.out).mono ?_
    rintro e w1 ⟨rfl, rfl⟩
    go_wp2_with fail
    refine (known_any _ HT.out).mono ?_
    rintro e w2 ⟨rfl, hb⟩
    go_wp2
    go_ret
    exact ⟨rfl, hb⟩
  have hll' : l.length ≤ 30 := by omega
  clear hll
  have HLE : Hid (∀ l ∈ E, l.length ≤ 1000) := Lib.hid fun l hl => by have := sumL_mem hl; have := of_decide_eq_false HS.out; omega
  by_cases hE : newE E = 0
  · have HE := Lib.hid hE
    have HV : Hid (Valid E) := Lib.hid (okAll_iff.1 (by
      cases hok : okAll E with
      | true => rfl
      | false => rw [newE_arg hok] at hE; cases hE))
    clear hE
    go_enter Tryd.func4, Tryd.ntmps4
    go_wp2_with fail
    refine (long_few E _ _ _ H.out hn HZ.out false HS.out).mono ?_
    rintro e w1 ⟨rfl, rfl⟩
    go_wp2_with fail
    refine (new_ok E _ rfl _ _ _ H.out hn HLE.out HT.out HE.out).mono ?_
    rintro e w1 ⟨g, rfl, hg, hb1⟩
    have HG := Lib.hid hg; have HB1 := Lib.hid hb1
    clear hg hb1
    go_wp2_with fail
    refine (above_any _ E _ HG.out hn l _ rfl _ _ (HLI.out.below HB1.out) (HT.out.below HB1.out HT.out.lt)).mono ?_
    rintro e w2 ⟨p2, A2, c2, hp2, rfl, hi2, hb2⟩
    have HP2 := Lib.hid hp2; have HI2 := Lib.hid hi2; have HB2 := Lib.hid hb2
    clear hp2 hi2 hb2
    go_wp2_with fail
    refine (rfar_any E l _ rfl true _ _ _ _ _ (H.out.below (blw HB1.out HB2.out)) (HLI.out.below (blw HB1.out HB2.out)) hn HV.out).mono ?_
    rintro e w3 ⟨p3, A3, c3, hp3, rfl, hi3, hb3⟩
    have e3 := filt_same HP2.out hp3 (far_ab HV.out l)
    rw [← e3] at hi3 ⊢
    have HI3 := Lib.hid hi3; have HB3 := Lib.hid hb3
    clear hi3 hb3 hp3 e3 HP2
    go_wp2_with fail
    refine (same_any _ _ _ rfl rfl _ _ _ _ _ (HI2.out.below HB3.out) HI3.out).mono ?_
    rintro e w4 ⟨rfl, hb4⟩
    have HB4 := Lib.hid (blw (blw HB2.out HB3.out) hb4)
    clear hb4 HI2 HI3 HB2 HB3
    have HB14 := Lib.hid (blw HB1.out HB4.out)
    go_wp2_with fail
    refine (below_any _ E _ (HG.out.below HB4.out) hn l _ rfl _ _ (HLI.out.below HB14.out) (HT.out.below HB14.out HT.out.lt)).mono ?_
    rintro e w5 ⟨p5, A5, c5, hp5, rfl, hi5, hb5⟩
    have HP5 := Lib.hid hp5; have HI5 := Lib.hid hi5; have HB5 := Lib.hid hb5
    clear hp5 hi5 hb5
    go_wp2_with fail
    refine (rfar_any E l _ rfl false _ _ _ _ _ (H.out.below (blw HB14.out HB5.out)) (HLI.out.below (blw HB14.out HB5.out)) hn HV.out).mono ?_
    rintro e w6 ⟨p6, A6, c6, hp6, rfl, hi6, hb6⟩
    have e6 := filt_same HP5.out hp6 (far_be HV.out l)
    rw [← e6] at hi6 ⊢
    have HI6 := Lib.hid hi6; have HB6 := Lib.hid hb6
    clear hi6 hb6 hp6 e6 HP5
    go_wp2_with fail
    refine (same_any _ _ _ rfl rfl _ _ _ _ _ (HI5.out.below HB6.out) HI6.out).mono ?_
    rintro e w7 ⟨rfl, hb7⟩
    have HB7 := Lib.hid (blw (blw (blw HB14.out HB5.out) HB6.out) hb7)
    clear hb7
    go_wp2_with fail
    refine (known_any _ (HT.out.below HB7.out HT.out.lt)).mono ?_
    rintro e w8 ⟨rfl, hb8⟩
    go_wp2
    go_ret
    exact ⟨rfl, blw HB7.out hb8⟩
  · obtain ⟨q, hq⟩ : ∃ q, newE E = q := ⟨_, rfl⟩
    have hq0 : (q == 0) = false := by rw [beq_eq_false_iff_ne, ← hq]; exact hE
    have HQ := Lib.hid hq
    have HQ0 : Hid (q ≠ 0) := Lib.hid (by rw [← hq]; exact hE)
    clear hE hq
    go_enter Tryd.func4, Tryd.ntmps4
    go_wp2_with fail
    refine (long_few E _ _ _ H.out hn HZ.out false HS.out).mono ?_
    rintro e w1 ⟨rfl, rfl⟩
    go_wp2_with fail
    refine (new_bad E _ rfl _ _ _ H.out hn HLE.out HT.out q HQ.out HQ0.out).mono ?_
    rintro e w1 ⟨rfl, hb1⟩
    have HB1 := Lib.hid hb1
    clear hb1
    go_wp2_with fail
    refine (known_any _ (HT.out.below HB1.out HT.out.lt)).mono ?_
    rintro e w8 ⟨rfl, hb8⟩
    go_wp2
    go_ret
    exact ⟨rfl, blw HB1.out hb8⟩

namespace dagFar
theorem own : ownKnob Tryd.prog.godebug = none := by kernel_rfl
theorem laidOut : laidOutB Tryd.prog = true := by kernel_rfl
set_option maxRecDepth 100000 in
theorem lifted (os : Os) (started : os.Started) (H : Type) (enc : TypeId × Value → H) :
    ReturnsInHanded {} Tryd.checked os 4 .any (fun w args => (Rows.dagFarSpec.pre enc Tryd.prog Tryd.f4 [] false w args ∧ laidMetH Tryd.prog laid1 w) ∧ sizedMet enc Tryd.prog Tryd.f4 (OpenSpec.ofChange Rows.dagFarSpec) false w args)
      (Rows.dagFarSpec.post enc Tryd.prog Tryd.f4 false true false false) := by
  refine returnsInHanded_of_change_and (C := Tryd.checked) (X := fun w _ => laidMetH Tryd.prog laid1 w) (fun _ _ _ hh h => h.of_heap hh) own started (by kernel_rfl) Tryd.func4
    (ChangeSpec.witness_shaped (enc := enc) (C := Tryd.checked) (os := os) (X := fun w _ => laidMetH Tryd.prog laid1 w) false (World.laidAll Tryd.prog os laid1) #[.slice none 0 0, .slice none 0 0] 8 (World.laidAll_os _ _ _)
      (World.shaped_of_ZipB (by kernel_rfl) (by kernel_rfl)) (by kernel_rfl) (by kernel_rfl) (by kernel_rfl)
      (by rw [MakeChecks.laidMetH_plain _ _ _ (by kernel_rfl)]; exact laidMet_laidAll _ (by kernel_rfl) (by kernel_rfl))) ?_
  intro W base args ds gs before hval0 hW _ hsz hL _
  have hval : ∀ (j : Nat) t v, Tryd.f4.params[j]? = some t → args[j]? = some v → Value.okWide Tryd.prog W .any base t v := hval0
  have hW' := hW
  obtain ⟨p, q, hA0, hV, rfl, _, _⟩ := hW
  have hA : DataW.TrodAll enc Tryd.prog W 0 (fun _ => true) true Tryd.f4.params.toList args.toList ds p := hA0
  rw [Tryd.params4] at hA hval
  obtain ⟨v0, vs0, d0, ds0, p0, q0, hargs, rfl, rfl, h0, r0⟩ := trodAll_cons hA
  obtain ⟨v1, vs1, d1, ds1, p1, q1, rfl, rfl, rfl, h1, r1⟩ := trodAll_cons r0
  obtain ⟨rfl, rfl, rfl⟩ := trodAll_nil r1
  obtain rfl : args = #[v0, v1] := by cases args; simp_all
  obtain ⟨rfl, rfl⟩ := trodVars_none hV
  have k0 := h0
  have lt0 : ∀ x ∈ p0, x.block < W.heap.size := by obtain ⟨m, hm⟩ := k0; exact DataW.trod_lt m _ _ _ hm
  obtain ⟨A0, l0, c0, e0⟩ := okWide_slice Tryd.underlying22 (hval 0 22 v0 rfl rfl)
  obtain ⟨fuel0, hf0⟩ := h0
  rw [show v0.cells.toList = [v0] from by rw [e0]; rfl] at hf0
  clear e0 A0 l0 c0
  obtain ⟨A0, c0, z0, rfl, w0⟩ := rows_arg hf0
  have s0 := rows_sized hf0 (weights_at hsz (j := 0) (t := 22) rfl rfl) rfl w0
  have k1 := h1
  have lt1 : ∀ x ∈ p1, x.block < W.heap.size := by obtain ⟨m, hm⟩ := k1; exact DataW.trod_lt m _ _ _ hm
  obtain ⟨A1, l1, c1, e1⟩ := okWide_slice Tryd.underlying30 (hval 1 30 v1 rfl rfl)
  obtain ⟨fuel1, hf1⟩ := h1
  rw [show v1.cells.toList = [v1] from by rw [e1]; rfl] at hf1
  clear e1 A1 l1 c1
  obtain ⟨A1, c1, z1, rfl, w1⟩ := ints_arg hf1
  clear hA0 hval0
  rw [MakeChecks.laidMetH_plain _ _ _ (by kernel_rfl)] at hL
  refine (walk_DagFar W (tab_of hL) A0 c0 z0 w0 s0 A1 c1 z1 w1).mono fun e W' ⟨he, bel⟩ => ?_
  subst he
  exact ⟨_, rfl, _, _, _, [], _, [], hW', trodAll_mk1 (shut_bool Tryd.underlying4 _), (trodAll_cons_mk (Below.trod laidOut (by kernel_rfl) (of_decide_eq_true (by kernel_rfl)) k0 bel lt0) (trodAll_cons_mk (Below.trod laidOut (by kernel_rfl) (of_decide_eq_true (by kernel_rfl)) k1 bel lt1) trodAll_mk0)), rfl, bel.frame _, fun h => by cases h⟩
theorem said : Rows.DagFarSaid :=
  OpenClaim.holds_of_wide 4 Tryd.f4 rfl rfl rfl rfl rfl rfl rfl ⟨rfl, rfl, rfl, rfl, rfl⟩ rfl rfl rfl rfl rfl (by kernel_rfl) Tryd.func4 (by kernel_rfl)
    (of_decide_eq_true (by kernel_rfl)) (by unfold Func.isWrapper; first | (rw [if_pos (by decide +kernel)]; kernel_rfl) | (rw [if_neg (by decide +kernel)]; exact ⟨rfl, rfl⟩))
    (fun os started H enc _ => lifted os started H enc)
theorem plain (f : FuncId) (fn : Func) (hf : Tryd.pinned.checked.prog.funcNamed "timekeeper/timekeeperlaw05.DagFar" = some f) (hfn : Tryd.pinned.checked.prog.funcs[f]? = some fn) :
    false = Tryd.pinned.checked.prog.looks [] ∧ ∀ (j : Nat) t, fn.params[j]? = some t → Tryd.pinned.checked.prog.wantsStandIn t = false := by
  obtain rfl : f = 4 := Option.some.inj ((show Tryd.prog.funcNamed "timekeeper/timekeeperlaw05.DagFar" = some 4 by kernel_rfl).symm.trans hf) |>.symm
  obtain rfl : fn = Tryd.f4 := (Option.some.inj (Tryd.func4.symm.trans hfn)).symm
  refine ⟨by kernel_rfl, fun j t ht => ?_⟩
  rw [Tryd.params4] at ht
  have hm : t ∈ [22, 30] := by simpa using Array.mem_of_getElem? ht
  have hall : ([22, 30].all fun u => !Tryd.prog.wantsStandIn u) = true := by kernel_rfl
  exact (show Tryd.prog.wantsStandIn t = false by simpa using List.all_eq_true.1 hall t hm)
theorem proved : Rows.DagFarCardSaid :=
  Claim7.holds_tied_plain_at .later [] _ _ _ _ said (fun _ h => by cases h) (by kernel_rfl) (fun _ h => by cases h) dagFar_row_tie rfl ⟨rfl, rfl⟩ (by kernel_rfl) rfl plain (by kernel_rfl)
#print axioms proved
end dagFar
end Go.Proofs.YtaokbjacfdipmaaDoor
