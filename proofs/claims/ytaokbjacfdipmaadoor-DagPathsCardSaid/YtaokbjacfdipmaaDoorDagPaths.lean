/- DagPaths: for any slice of slices of int and any two ints the law returns true, and it reads afterwards as before. The library's table of 64 numbers is as the card ties it. -/
import Derived.Test.YtaokbjacfdipmaaDoorRows
import Derived.Test.YtaokbjacfdipmaaDoorCards
import Derived.Test.YtaokbjacfdipmaaDoorTie
import Derived.Test.YtaokbjacfdipmaaDoorDagArg
import Derived.Test.YtaokbjacfdipmaaDoorDagPath
import Derived.Test.YtaokbjacfdipmaaDoorDagRPath
import Derived.Test.YtaokbjacfdipmaaDoorDagRight
import Derived.WalkKit
import Derived.ProofKit
import Derived.OpenShut
import Derived.ChangeOld
import Derived.Below
import Derived.SevenTiedAt
namespace Go.Proofs.YtaokbjacfdipmaaDoor
open Go.ChangeShapes Go.WideShapes Go.ChangeAt Go.RowKit Go.Lib
set_option linter.unusedVariables false

set_option maxRecDepth 100000 in
set_option maxHeartbeats 1600000 in
theorem walk_DagPaths (w : World) (hT : Tab w) (A : Option Addr) (c : Nat) (E : List (List Int)) (h : IRows w A c E) (hz : ∀ l ∈ E, l.length ≤ 140737488355328) (x y : Int) :
    Calls Tryd.prog 6 #[.slice A E.length c, .int .i64 x, .int .i64 y] w fun e w' => e = .returned (.bool true) ∧ Below w.heap.size w w' := by
  have HT := Lib.hid hT; have H := Lib.hid h; have HZ := Lib.hid hz
  clear hT h hz
  by_cases hbig : 30 < E.length
  · go_enter Tryd.func6, Tryd.ntmps6
    go_wp2_with fail
    refine (long_many E _ _ _ H.out hbig).mono ?_
    rintro e w1 ⟨rfl, rfl⟩
    go_wp2_with fail
    refine (known_any _ HT.out).mono ?_
    rintro e w2 ⟨rfl, hb⟩
    go_wp2
    go_ret
    exact ⟨rfl, hb⟩
  have hn : E.length ≤ 30 := by omega
  clear hbig
  by_cases hs : 100 < sumL E
  · have HS : Hid (decide (100 < sumL E) = true) := Lib.hid (decide_eq_true hs)
    clear hs
    go_enter Tryd.func6, Tryd.ntmps6
    go_wp2_with fail
    refine (long_few E _ _ _ H.out hn HZ.out true HS.out).mono ?_
    rintro e w1 ⟨rfl, rfl⟩
    go_wp2_with fail
    refine (known_any _ HT.out).mono ?_
    rintro e w2 ⟨rfl, hb⟩
    go_wp2
    go_ret
    exact ⟨rfl, hb⟩
  have HS : Hid (decide (100 < sumL E) = false) := Lib.hid (decide_eq_false hs)
  clear hs
  have HLE : Hid (∀ l ∈ E, l.length ≤ 1000) := Lib.hid fun l hl => by have := sumL_mem hl; have := of_decide_eq_false HS.out; omega
  by_cases hE : newE E = 0
  · have HE := Lib.hid hE
    have HV : Hid (Valid E) := Lib.hid (okAll_iff.1 (by
      cases hok : okAll E with
      | true => rfl
      | false => rw [newE_arg hok] at hE; cases hE))
    clear hE
    go_enter Tryd.func6, Tryd.ntmps6
    go_wp2_with fail
    refine (long_few E _ _ _ H.out hn HZ.out false HS.out).mono ?_
    rintro e w1 ⟨rfl, rfl⟩
    go_wp2_with fail
    refine (new_ok E _ rfl _ _ _ H.out hn HLE.out HT.out HE.out).mono ?_
    rintro e w1 ⟨g, rfl, hg, hb1⟩
    have HFL : Hid ((order E).length = E.length) := Lib.hid hg.full
    have HG := Lib.hid hg; have HB1 := Lib.hid hb1
    clear hg hb1
    go_wp2_with fail
    refine (path_any _ E _ HG.out HV.out hn x y).mono ?_
    rintro e w2 ⟨A2, c2, rfl, hi2, hb2⟩
    have HI2 := Lib.hid hi2; have HB2 := Lib.hid (blw HB1.out hb2)
    clear hi2 hb2 HG HB1
    go_wp2_with fail
    refine (rpath_any E HFL.out _ _ _ (H.out.below HB2.out) hn HV.out x y).mono ?_
    rintro e w3 ⟨A3, c3, rfl, hi3, hb3⟩
    have HI3 := Lib.hid hi3; have HI2b := Lib.hid (HI2.out.below hb3); have HB3 := Lib.hid (blw HB2.out hb3)
    clear hi3 hb3 HB2 HI2
    go_wp2_with fail
    refine (same_any _ _ _ rfl rfl _ _ _ _ _ HI2b.out HI3.out).mono ?_
    rintro e w4 ⟨rfl, hb4⟩
    have HI4 := Lib.hid (HI2b.out.below hb4); have HB4 := Lib.hid (blw HB3.out hb4)
    clear hb4 HB3 HI3 HI2b
    have HT4 := Lib.hid (HT.out.below HB4.out HT.out.lt)
    have key : (pthG E x y = []) ∨ ∃ (v t k : Nat), x = (v : Int) ∧ y = (t : Int) ∧ v < E.length ∧ t < E.length ∧ lea E t v = some k ∧ pthG E x y = num (pathL E t k v) := by
      rcases Classical.em (inG E x y) with hin | hin
      · obtain ⟨⟨hx0, hx1⟩, hy0, hy1⟩ := hin
        obtain ⟨v, rfl⟩ : ∃ v : Nat, x = (v : Int) := ⟨x.toNat, by omega⟩
        obtain ⟨t, rfl⟩ : ∃ t : Nat, y = (t : Int) := ⟨y.toNat, by omega⟩
        have hv : v < E.length := by omega
        have ht : t < E.length := by omega
        rw [pthG_in hv ht]
        cases hl : lea E t v with
        | none => rw [pthL_none hl]; exact Or.inl rfl
        | some k => exact Or.inr ⟨v, t, k, rfl, rfl, hv, ht, hl, by rw [pthL_some hl]⟩
      · exact Or.inl (pthG_out hin)
    rcases key with hk | ⟨v, t, k, rfl, rfl, hv, ht, hl, hk⟩
    · rw [hk] at HI4 ⊢
      clear hk
      go_wp2_with fail
      refine (known_any _ HT4.out).mono ?_
      rintro e w5 ⟨rfl, hb5⟩
      go_wp2
      go_ret
      exact ⟨rfl, blw HB4.out hb5⟩
    · obtain ⟨hc, _⟩ := lea_some HFL.out HV.out ht hl
      have hkn : k < E.length := can_short HFL.out HV.out ht hc
      have hlen := pathL_len E t k v
      rw [hk] at HI4 ⊢
      rw [num_len, hlen]
      have HR := Lib.hid (right_any E w4 _ _ (H.out.below HB4.out) hn (pathL E t k v) k v t hlen (by omega) (pathL_first E t k v) (pathL_last hc) (pathL_lt hc hv) (pathL_arc hc) _ _ HI4.out)
      have hz : ((k : Int) + 1 == 0) = false := by rw [beq_eq_false_iff_ne]; omega
      clear hk hl hc hlen
      go_wp2_with fail
      refine HR.out.mono ?_
      rintro e w5 ⟨rfl, hb5⟩
      have HT5 := Lib.hid (HT4.out.below hb5 HT4.out.lt)
      have HB5 := Lib.hid (blw HB4.out hb5)
      clear hb5
      go_wp2_with fail
      refine (known_any _ HT5.out).mono ?_
      rintro e w6 ⟨rfl, hb6⟩
      go_wp2
      go_ret
      exact ⟨rfl, blw HB5.out hb6⟩
  · obtain ⟨q, hq⟩ : ∃ q, newE E = q := ⟨_, rfl⟩
    have hq0 : (q == 0) = false := by rw [beq_eq_false_iff_ne, ← hq]; exact hE
    have HQ := Lib.hid hq
    have HQ0 : Hid (q ≠ 0) := Lib.hid (by rw [← hq]; exact hE)
    clear hE hq
    go_enter Tryd.func6, Tryd.ntmps6
    go_wp2_with fail
    refine (long_few E _ _ _ H.out hn HZ.out false HS.out).mono ?_
    rintro e w1 ⟨rfl, rfl⟩
    go_wp2_with fail
    refine (new_bad E _ rfl _ _ _ H.out hn HLE.out HT.out q HQ.out HQ0.out).mono ?_
    rintro e w1 ⟨rfl, hb1⟩
    have HB1 := Lib.hid hb1
    clear hb1
    go_wp2_with fail
    refine (known_any _ (HT.out.below HB1.out HT.out.lt)).mono ?_
    rintro e w8 ⟨rfl, hb8⟩
    go_wp2
    go_ret
    exact ⟨rfl, blw HB1.out hb8⟩

namespace dagPaths
theorem own : ownKnob Tryd.prog.godebug = none := by kernel_rfl
theorem laidOut : laidOutB Tryd.prog = true := by kernel_rfl
set_option maxRecDepth 100000 in
theorem lifted (os : Os) (started : os.Started) (H : Type) (enc : TypeId × Value → H) :
    ReturnsInHanded {} Tryd.checked os 6 .any (fun w args => (Rows.dagPathsSpec.pre enc Tryd.prog Tryd.f6 [] false w args ∧ laidMetH Tryd.prog laid1 w) ∧ sizedMet enc Tryd.prog Tryd.f6 (OpenSpec.ofChange Rows.dagPathsSpec) false w args)
      (Rows.dagPathsSpec.post enc Tryd.prog Tryd.f6 false true false false) := by
  refine returnsInHanded_of_change_and (C := Tryd.checked) (X := fun w _ => laidMetH Tryd.prog laid1 w) (fun _ _ _ hh h => h.of_heap hh) own started (by kernel_rfl) Tryd.func6
    (ChangeSpec.witness_shaped (enc := enc) (C := Tryd.checked) (os := os) (X := fun w _ => laidMetH Tryd.prog laid1 w) false (World.laidAll Tryd.prog os laid1) #[.slice none 0 0, .int .i64 0, .int .i64 0] 8 (World.laidAll_os _ _ _)
      (World.shaped_of_ZipB (by kernel_rfl) (by kernel_rfl)) (by kernel_rfl) (by kernel_rfl) (by kernel_rfl)
      (by rw [MakeChecks.laidMetH_plain _ _ _ (by kernel_rfl)]; exact laidMet_laidAll _ (by kernel_rfl) (by kernel_rfl))) ?_
  intro W base args ds gs before hval0 hW _ hsz hL _
  have hval : ∀ (j : Nat) t v, Tryd.f6.params[j]? = some t → args[j]? = some v → Value.okWide Tryd.prog W .any base t v := hval0
  have hW' := hW
  obtain ⟨p, q, hA0, hV, rfl, _, _⟩ := hW
  have hA : DataW.TrodAll enc Tryd.prog W 0 (fun _ => true) true Tryd.f6.params.toList args.toList ds p := hA0
  rw [Tryd.params6] at hA hval
  obtain ⟨v0, vs0, d0, ds0, p0, q0, hargs, rfl, rfl, h0, r0⟩ := trodAll_cons hA
  obtain ⟨v1, vs1, d1, ds1, p1, q1, rfl, rfl, rfl, h1, r1⟩ := trodAll_cons r0
  obtain ⟨v2, vs2, d2, ds2, p2, q2, rfl, rfl, rfl, h2, r2⟩ := trodAll_cons r1
  obtain ⟨rfl, rfl, rfl⟩ := trodAll_nil r2
  obtain rfl : args = #[v0, v1, v2] := by cases args; simp_all
  obtain ⟨rfl, rfl⟩ := trodVars_none hV
  have k0 := h0
  have lt0 : ∀ x ∈ p0, x.block < W.heap.size := by obtain ⟨m, hm⟩ := k0; exact DataW.trod_lt m _ _ _ hm
  obtain ⟨A0, l0, c0, e0⟩ := okWide_slice Tryd.underlying22 (hval 0 22 v0 rfl rfl)
  obtain ⟨fuel0, hf0⟩ := h0
  rw [show v0.cells.toList = [v0] from by rw [e0]; rfl] at hf0
  clear e0 A0 l0 c0
  obtain ⟨A0, c0, z0, rfl, w0⟩ := rows_arg hf0
  have s0 := rows_sized hf0 (weights_at hsz (j := 0) (t := 22) rfl rfl) rfl w0
  obtain ⟨a1, rfl, rfl, rfl, w1⟩ := open_int Tryd.underlying3 (hval 1 3 v1 rfl rfl) h1
  obtain ⟨a2, rfl, rfl, rfl, w2⟩ := open_int Tryd.underlying3 (hval 2 3 v2 rfl rfl) h2
  clear hA0 hval0
  rw [MakeChecks.laidMetH_plain _ _ _ (by kernel_rfl)] at hL
  refine (walk_DagPaths W (tab_of hL) A0 c0 z0 w0 s0 a1 a2).mono fun e W' ⟨he, bel⟩ => ?_
  subst he
  exact ⟨_, rfl, _, _, _, [], _, [], hW', trodAll_mk1 (shut_bool Tryd.underlying4 _), (trodAll_cons_mk (Below.trod laidOut (by kernel_rfl) (of_decide_eq_true (by kernel_rfl)) k0 bel lt0) (trodAll_cons_mk (shut_int Tryd.underlying3 w1) (trodAll_cons_mk (shut_int Tryd.underlying3 w2) trodAll_mk0))), rfl, bel.frame _, fun h => by cases h⟩
theorem said : Rows.DagPathsSaid :=
  OpenClaim.holds_of_wide 6 Tryd.f6 rfl rfl rfl rfl rfl rfl rfl ⟨rfl, rfl, rfl, rfl, rfl⟩ rfl rfl rfl rfl rfl (by kernel_rfl) Tryd.func6 (by kernel_rfl)
    (of_decide_eq_true (by kernel_rfl)) (by unfold Func.isWrapper; first | (rw [if_pos (by decide +kernel)]; kernel_rfl) | (rw [if_neg (by decide +kernel)]; exact ⟨rfl, rfl⟩))
    (fun os started H enc _ => lifted os started H enc)
theorem plain (f : FuncId) (fn : Func) (hf : Tryd.pinned.checked.prog.funcNamed "timekeeper/timekeeperlaw05.DagPaths" = some f) (hfn : Tryd.pinned.checked.prog.funcs[f]? = some fn) :
    false = Tryd.pinned.checked.prog.looks [] ∧ ∀ (j : Nat) t, fn.params[j]? = some t → Tryd.pinned.checked.prog.wantsStandIn t = false := by
  obtain rfl : f = 6 := Option.some.inj ((show Tryd.prog.funcNamed "timekeeper/timekeeperlaw05.DagPaths" = some 6 by kernel_rfl).symm.trans hf) |>.symm
  obtain rfl : fn = Tryd.f6 := (Option.some.inj (Tryd.func6.symm.trans hfn)).symm
  refine ⟨by kernel_rfl, fun j t ht => ?_⟩
  rw [Tryd.params6] at ht
  have hm : t ∈ [22, 3, 3] := by simpa using Array.mem_of_getElem? ht
  have hall : ([22, 3, 3].all fun u => !Tryd.prog.wantsStandIn u) = true := by kernel_rfl
  exact (show Tryd.prog.wantsStandIn t = false by simpa using List.all_eq_true.1 hall t hm)
theorem proved : Rows.DagPathsCardSaid :=
  Claim7.holds_tied_plain_at .later [] _ _ _ _ said (fun _ h => by cases h) (by kernel_rfl) (fun _ h => by cases h) dagPaths_row_tie rfl ⟨rfl, rfl⟩ (by kernel_rfl) rfl plain (by kernel_rfl)
#print axioms proved
end dagPaths
end Go.Proofs.YtaokbjacfdipmaaDoor
