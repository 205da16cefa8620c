/- DagBoth: for any slice of slices of int and any two ints the law returns true, and it reads afterwards as before. The library's table of 64 numbers is as the card ties it. -/
import Derived.Test.YtaokbjacfdipmaaDoorRows
import Derived.Test.YtaokbjacfdipmaaDoorCards
import Derived.Test.YtaokbjacfdipmaaDoorTie
import Derived.Test.YtaokbjacfdipmaaDoorDagArg
import Derived.Test.YtaokbjacfdipmaaDoorDagPath
import Derived.Test.YtaokbjacfdipmaaDoorDagBareP
import Derived.WalkKit
import Derived.ProofKit
import Derived.OpenShut
import Derived.ChangeOld
import Derived.Below
import Derived.SevenTiedAt
namespace Go.Proofs.YtaokbjacfdipmaaDoor
open Go.ChangeShapes Go.WideShapes Go.ChangeAt Go.RowKit Go.Lib
set_option linter.unusedVariables false

theorem far_up {E : List (List Int)} (hE : Valid E) {s : Nat} (hs : s < E.length) (u : Nat) : FarP (fro E) [(s : Int)] u ↔ Plus (arc E) s u := by
  unfold FarP
  rw [fro_len]
  constructor
  · rintro ⟨t, h1, h2, h3⟩
    have e : t = s := by simp at h2; omega
    subst e
    exact h3.mono fun x y h => (arc_fro.1 h).2
  · exact fun h => ⟨s, hs, by simp, h.mono fun x y h => arc_fro.2 ⟨hE.arc h, h⟩⟩
theorem far_dn {E : List (List Int)} (hE : Valid E) {s : Nat} (hs : s < E.length) (u : Nat) : FarP (rev E) [(s : Int)] u ↔ Plus (arc E) u s := by
  unfold FarP
  rw [rev_len]
  constructor
  · rintro ⟨t, h1, h2, h3⟩
    have e : t = s := by simp at h2; omega
    subst e
    exact h3.flip fun x y h => ((arc_rev (by have := arc_lt h; rwa [rev_len] at this)).1 h).2
  · exact fun h => ⟨s, hs, by simp, h.flip fun x y h => (arc_rev (hE.arc h)).2 ⟨arc_lt h, h⟩⟩
theorem filt_has {n : Nat} {p : Nat → Bool} {P : Nat → Prop} (hp : ∀ u, u < n → (p u = true ↔ P u)) {v : Nat} (hv : v < n) {r : Bool} (hr : r = true ↔ P v) : decide ((v : Int) ∈ num ((List.range n).filter p)) = r := by
  rw [Bool.eq_iff_iff, decide_eq_true_eq, num_mem, List.mem_filter, hr, ← hp v hv]
  simp [hv]

set_option maxRecDepth 100000 in
set_option maxHeartbeats 1600000 in
theorem walk_DagBoth (w : World) (hT : Tab w) (A : Option Addr) (c : Nat) (E : List (List Int)) (h : IRows w A c E) (hz : ∀ l ∈ E, l.length ≤ 140737488355328) (x y : Int) :
    Calls Tryd.prog 8 #[.slice A E.length c, .int .i64 x, .int .i64 y] w fun e w' => e = .returned (.bool true) ∧ Below w.heap.size w w' := by
  have HT := Lib.hid hT; have H := Lib.hid h; have HZ := Lib.hid hz
  clear hT h hz
  by_cases hbig : 30 < E.length
  · go_enter Tryd.func8, Tryd.ntmps8
    go_wp2_with fail
    refine (long_many E _ _ _ H.out hbig).mono ?_
    rintro e w1 ⟨rfl, rfl⟩
    go_wp2_with fail
    refine (known_any _ HT.out).mono ?_
    rintro e w2 ⟨rfl, hb⟩
    go_wp2
    go_ret
    exact ⟨rfl, hb⟩
  have hn : E.length ≤ 30 := by omega
  clear hbig
  by_cases hs : 100 < sumL E
  · have HS : Hid (decide (100 < sumL E) = true) := Lib.hid (decide_eq_true hs)
    clear hs
    go_enter Tryd.func8, Tryd.ntmps8
    go_wp2_with fail
    refine (long_few E _ _ _ H.out hn HZ.out true HS.out).mono ?_
    rintro e w1 ⟨rfl, rfl⟩
    go_wp2_with fail
    refine (known_any _ HT.out).mono ?_
    rintro e w2 ⟨rfl, hb⟩
    go_wp2
    go_ret
    exact ⟨rfl, hb⟩
  have HS : Hid (decide (100 < sumL E) = false) := Lib.hid (decide_eq_false hs)
  clear hs
  have HLE : Hid (∀ l ∈ E, l.length ≤ 1000) := Lib.hid fun l hl => by have := sumL_mem hl; have := of_decide_eq_false HS.out; omega
  by_cases hE : newE E = 0
  · have HE := Lib.hid hE
    have HV : Hid (Valid E) := Lib.hid (okAll_iff.1 (by
      cases hok : okAll E with
      | true => rfl
      | false => rw [newE_arg hok] at hE; cases hE))
    clear hE
    by_cases hin : inG E x y
    · obtain ⟨⟨hx0, hx1⟩, hy0, hy1⟩ := hin
      obtain ⟨v, rfl⟩ : ∃ v : Nat, x = (v : Int) := ⟨x.toNat, by omega⟩
      obtain ⟨u, rfl⟩ : ∃ u : Nat, y = (u : Int) := ⟨y.toNat, by omega⟩
      have hv : v < E.length := by omega
      have hu : u < E.length := by omega
      clear hx0 hx1 hy0 hy1
      go_enter Tryd.func8, Tryd.ntmps8
      go_wp2_with fail
      refine (long_few E _ _ _ H.out hn HZ.out false HS.out).mono ?_
      rintro e w1 ⟨rfl, rfl⟩
      go_wp2_with fail
      refine (new_ok E _ rfl _ _ _ H.out hn HLE.out HT.out HE.out).mono ?_
      rintro e w1 ⟨g, rfl, hg, hb1⟩
      have HFL : Hid ((order E).length = E.length) := Lib.hid hg.full
      have HG := Lib.hid hg
      have HT1 := Lib.hid (HT.out.below hb1 HT.out.lt)
      have HB1 := Lib.hid (blw hb1 (al w1 (.cells #[.int .i64 (u : Int)] 3)))
      clear hg hb1
      obtain ⟨r, hr⟩ : ∃ r, plusB E u v = r := ⟨_, rfl⟩
      have HR : Hid (r = true ↔ Plus (arc E) u v) := Lib.hid (by rw [← hr]; exact plusB_iff HFL.out HV.out hu)
      clear hr
      have HLU := Lib.hid (Ints.lit w1 [(u : Int)] (n := 1) (g := w1.heap.size) rfl rfl (by decide))
      have HG2 := Lib.hid (HG.out.below (al w1 (.cells #[.int .i64 (u : Int)] 3)))
      have HT2 := Lib.hid (HT1.out.below (al w1 (.cells #[.int .i64 (u : Int)] 3)) HT1.out.lt)
      clear HG HT1
      go_wp2_with fail
      refine (above_any _ E _ HG2.out hn [(u : Int)] 1 rfl _ _ HLU.out HT2.out).mono ?_
      rintro e w2 ⟨p2, A2, c2, hp2, rfl, hi2, hb2⟩
      have e2 := filt_has hp2 hv (HR.out.trans (far_up HV.out hu v).symm)
      have HI2 := Lib.hid hi2; have HE2 := Lib.hid e2
      have HG3 := Lib.hid (HG2.out.below hb2)
      have HT3 := Lib.hid (HT2.out.below hb2 HT2.out.lt)
      have HB2 := Lib.hid (blw HB1.out hb2)
      clear hp2 hi2 hb2 e2 HG2 HT2 HLU HB1
      go_wp2_with fail
      refine (hasI_any _ _ rfl (v : Int) _ _ _ HI2.out r HE2.out).mono ?_
      rintro e w3 ⟨rfl, rfl⟩
      clear HI2 HE2
      have HLV := Lib.hid (Ints.lit w2 [(v : Int)] (n := 1) (g := w2.heap.size) rfl rfl (by decide))
      have HG4 := Lib.hid (HG3.out.below (al w2 (.cells #[.int .i64 (v : Int)] 3)))
      have HT4 := Lib.hid (HT3.out.below (al w2 (.cells #[.int .i64 (v : Int)] 3)) HT3.out.lt)
      have HB4 := Lib.hid (blw HB2.out (al w2 (.cells #[.int .i64 (v : Int)] 3)))
      clear HG3 HT3 HB2
      go_wp2_with fail
      refine (below_any _ E _ HG4.out hn [(v : Int)] 1 rfl _ _ HLV.out HT4.out).mono ?_
      rintro e w5 ⟨p5, A5, c5, hp5, rfl, hi5, hb5⟩
      have e5 := filt_has hp5 hu (HR.out.trans (far_dn HV.out hv u).symm)
      have HI5 := Lib.hid hi5; have HE5 := Lib.hid e5
      have HG5 := Lib.hid (HG4.out.below hb5)
      have HT5 := Lib.hid (HT4.out.below hb5 HT4.out.lt)
      have HB5 := Lib.hid (blw HB4.out hb5)
      clear hp5 hi5 hb5 e5 HG4 HT4 HB4 HLV
      go_wp2_with fail
      refine (hasI_any _ _ rfl (u : Int) _ _ _ HI5.out r HE5.out).mono ?_
      rintro e w6 ⟨rfl, rfl⟩
      clear HI5 HE5
      go_wp2_with fail
      refine (path_any _ E _ HG5.out HV.out hn (v : Int) (u : Int)).mono ?_
      rw [pthG_in hv hu, num_len]
      rintro e w7 ⟨A7, c7, rfl, hi7, hb7⟩
      obtain ⟨m, hm⟩ : ∃ m, (pthL E v u).length = m := ⟨_, rfl⟩
      have hm1 : decide (1 < (m : Int)) = r := by
        rw [Bool.eq_iff_iff, HR.out, ← pth_more HFL.out HV.out hu, hm, decide_eq_true_eq]; omega
      obtain ⟨q, hq⟩ : ∃ q, decide (v = u) = q := ⟨_, rfl⟩
      have hm2 : ((m : Int) == 1) = q := by
        rw [Bool.eq_iff_iff, beq_iff_eq, ← hq, decide_eq_true_eq, ← pth_one HFL.out HV.out hu, hm]; omega
      have hm3 : ((v : Int) == (u : Int)) = q := by
        rw [Bool.eq_iff_iff, beq_iff_eq, ← hq, decide_eq_true_eq]; omega
      have HG7 := Lib.hid (HG5.out.below (blw hb7 (al w7 (.cells #[.int .i64 (v : Int)] 3))))
      have HT7 := Lib.hid (HT5.out.below (blw hb7 (al w7 (.cells #[.int .i64 (v : Int)] 3))) HT5.out.lt)
      have HB7 := Lib.hid (blw (blw HB5.out hb7) (al w7 (.cells #[.int .i64 (v : Int)] 3)))
      have HLW := Lib.hid (Ints.lit w7 [(v : Int)] (n := 1) (g := w7.heap.size) rfl rfl (by decide))
      rw [num_len, hm]
      have HNO : Hid (false = true ↔ Plus (arc E) v v) := Lib.hid ⟨(fun h => by cases h), (fun h => by have := pos_plus HFL.out HV.out h; omega)⟩
      clear hi7 hb7 hm hq HR HG5 HT5 HB5
      cases r <;> cases q
      all_goals
        first
        | (go_wp2_with fail
           refine (above_any _ E _ HG7.out hn [(v : Int)] 1 rfl _ _ HLW.out HT7.out).mono ?_
           rintro e w8 ⟨p8, A8, c8, hp8, rfl, hi8, hb8⟩
           have e8 := filt_has hp8 hv (HNO.out.trans (far_up HV.out hv v).symm)
           have HI8 := Lib.hid hi8; have HE8 := Lib.hid e8
           have HT8 := Lib.hid (HT7.out.below hb8 HT7.out.lt)
           have HB8 := Lib.hid (blw HB7.out hb8)
           clear hp8 hi8 hb8 e8 HG7 HT7 HB7 HLW
           go_wp2_with fail
           refine (hasI_any _ _ rfl (v : Int) _ _ _ HI8.out false HE8.out).mono ?_
           rintro e w9 ⟨rfl, rfl⟩
           clear HI8 HE8
           go_wp2_with fail
           refine (known_any _ HT8.out).mono ?_
           rintro e w9 ⟨rfl, hb9⟩
           go_wp2
           go_ret
           exact ⟨rfl, blw HB8.out hb9⟩)
    · have hcase : x < 0 ∨ (0 ≤ x ∧ y < 0) ∨ (0 ≤ x ∧ 0 ≤ y ∧ (E.length : Int) ≤ x) ∨ (0 ≤ x ∧ 0 ≤ y ∧ x < (E.length : Int) ∧ (E.length : Int) ≤ y) := by
        unfold inG at hin; omega
      clear hin
      rcases hcase with h | ⟨h, h'⟩ | ⟨h, h', h''⟩ | ⟨h, h', h'', h3⟩
      all_goals
        go_enter Tryd.func8, Tryd.ntmps8
        go_wp2_with fail
        refine (long_few E _ _ _ H.out hn HZ.out false HS.out).mono ?_
        rintro e w1 ⟨rfl, rfl⟩
        go_wp2_with fail
        refine (new_ok E _ rfl _ _ _ H.out hn HLE.out HT.out HE.out).mono ?_
        rintro e w1 ⟨g, rfl, hg, hb1⟩
        have HB1 := Lib.hid hb1
        clear hg hb1
        go_wp2_with fail
        refine (known_any _ (HT.out.below HB1.out HT.out.lt)).mono ?_
        rintro e w8 ⟨rfl, hb8⟩
        go_wp2
        go_ret
        exact ⟨rfl, blw HB1.out hb8⟩
  · obtain ⟨q, hq⟩ : ∃ q, newE E = q := ⟨_, rfl⟩
    have hq0 : (q == 0) = false := by rw [beq_eq_false_iff_ne, ← hq]; exact hE
    have HQ := Lib.hid hq
    have HQ0 : Hid (q ≠ 0) := Lib.hid (by rw [← hq]; exact hE)
    clear hE hq
    go_enter Tryd.func8, Tryd.ntmps8
    go_wp2_with fail
    refine (long_few E _ _ _ H.out hn HZ.out false HS.out).mono ?_
    rintro e w1 ⟨rfl, rfl⟩
    go_wp2_with fail
    refine (new_bad E _ rfl _ _ _ H.out hn HLE.out HT.out q HQ.out HQ0.out).mono ?_
    rintro e w1 ⟨rfl, hb1⟩
    have HB1 := Lib.hid hb1
    clear hb1
    go_wp2_with fail
    refine (known_any _ (HT.out.below HB1.out HT.out.lt)).mono ?_
    rintro e w8 ⟨rfl, hb8⟩
    go_wp2
    go_ret
    exact ⟨rfl, blw HB1.out hb8⟩

namespace dagBoth
theorem own : ownKnob Tryd.prog.godebug = none := by kernel_rfl
theorem laidOut : laidOutB Tryd.prog = true := by kernel_rfl
set_option maxRecDepth 100000 in
theorem lifted (os : Os) (started : os.Started) (H : Type) (enc : TypeId × Value → H) :
    ReturnsInHanded {} Tryd.checked os 8 .any (fun w args => (Rows.dagBothSpec.pre enc Tryd.prog Tryd.f8 [] false w args ∧ laidMetH Tryd.prog laid1 w) ∧ sizedMet enc Tryd.prog Tryd.f8 (OpenSpec.ofChange Rows.dagBothSpec) false w args)
      (Rows.dagBothSpec.post enc Tryd.prog Tryd.f8 false true false false) := by
  refine returnsInHanded_of_change_and (C := Tryd.checked) (X := fun w _ => laidMetH Tryd.prog laid1 w) (fun _ _ _ hh h => h.of_heap hh) own started (by kernel_rfl) Tryd.func8
    (ChangeSpec.witness_shaped (enc := enc) (C := Tryd.checked) (os := os) (X := fun w _ => laidMetH Tryd.prog laid1 w) false (World.laidAll Tryd.prog os laid1) #[.slice none 0 0, .int .i64 0, .int .i64 0] 8 (World.laidAll_os _ _ _)
      (World.shaped_of_ZipB (by kernel_rfl) (by kernel_rfl)) (by kernel_rfl) (by kernel_rfl) (by kernel_rfl)
      (by rw [MakeChecks.laidMetH_plain _ _ _ (by kernel_rfl)]; exact laidMet_laidAll _ (by kernel_rfl) (by kernel_rfl))) ?_
  intro W base args ds gs before hval0 hW _ hsz hL _
  have hval : ∀ (j : Nat) t v, Tryd.f8.params[j]? = some t → args[j]? = some v → Value.okWide Tryd.prog W .any base t v := hval0
  have hW' := hW
  obtain ⟨p, q, hA0, hV, rfl, _, _⟩ := hW
  have hA : DataW.TrodAll enc Tryd.prog W 0 (fun _ => true) true Tryd.f8.params.toList args.toList ds p := hA0
  rw [Tryd.params8] at hA hval
  obtain ⟨v0, vs0, d0, ds0, p0, q0, hargs, rfl, rfl, h0, r0⟩ := trodAll_cons hA
  obtain ⟨v1, vs1, d1, ds1, p1, q1, rfl, rfl, rfl, h1, r1⟩ := trodAll_cons r0
  obtain ⟨v2, vs2, d2, ds2, p2, q2, rfl, rfl, rfl, h2, r2⟩ := trodAll_cons r1
  obtain ⟨rfl, rfl, rfl⟩ := trodAll_nil r2
  obtain rfl : args = #[v0, v1, v2] := by cases args; simp_all
  obtain ⟨rfl, rfl⟩ := trodVars_none hV
  have k0 := h0
  have lt0 : ∀ x ∈ p0, x.block < W.heap.size := by obtain ⟨m, hm⟩ := k0; exact DataW.trod_lt m _ _ _ hm
  obtain ⟨A0, l0, c0, e0⟩ := okWide_slice Tryd.underlying22 (hval 0 22 v0 rfl rfl)
  obtain ⟨fuel0, hf0⟩ := h0
  rw [show v0.cells.toList = [v0] from by rw [e0]; rfl] at hf0
  clear e0 A0 l0 c0
  obtain ⟨A0, c0, z0, rfl, w0⟩ := rows_arg hf0
  have s0 := rows_sized hf0 (weights_at hsz (j := 0) (t := 22) rfl rfl) rfl w0
  obtain ⟨a1, rfl, rfl, rfl, w1⟩ := open_int Tryd.underlying3 (hval 1 3 v1 rfl rfl) h1
  obtain ⟨a2, rfl, rfl, rfl, w2⟩ := open_int Tryd.underlying3 (hval 2 3 v2 rfl rfl) h2
  clear hA0 hval0
  rw [MakeChecks.laidMetH_plain _ _ _ (by kernel_rfl)] at hL
  refine (walk_DagBoth W (tab_of hL) A0 c0 z0 w0 s0 a1 a2).mono fun e W' ⟨he, bel⟩ => ?_
  subst he
  exact ⟨_, rfl, _, _, _, [], _, [], hW', trodAll_mk1 (shut_bool Tryd.underlying4 _), (trodAll_cons_mk (Below.trod laidOut (by kernel_rfl) (of_decide_eq_true (by kernel_rfl)) k0 bel lt0) (trodAll_cons_mk (shut_int Tryd.underlying3 w1) (trodAll_cons_mk (shut_int Tryd.underlying3 w2) trodAll_mk0))), rfl, bel.frame _, fun h => by cases h⟩
theorem said : Rows.DagBothSaid :=
  OpenClaim.holds_of_wide 8 Tryd.f8 rfl rfl rfl rfl rfl rfl rfl ⟨rfl, rfl, rfl, rfl, rfl⟩ rfl rfl rfl rfl rfl (by kernel_rfl) Tryd.func8 (by kernel_rfl)
    (of_decide_eq_true (by kernel_rfl)) (by unfold Func.isWrapper; first | (rw [if_pos (by decide +kernel)]; kernel_rfl) | (rw [if_neg (by decide +kernel)]; exact ⟨rfl, rfl⟩))
    (fun os started H enc _ => lifted os started H enc)
theorem plain (f : FuncId) (fn : Func) (hf : Tryd.pinned.checked.prog.funcNamed "timekeeper/timekeeperlaw05.DagBoth" = some f) (hfn : Tryd.pinned.checked.prog.funcs[f]? = some fn) :
    false = Tryd.pinned.checked.prog.looks [] ∧ ∀ (j : Nat) t, fn.params[j]? = some t → Tryd.pinned.checked.prog.wantsStandIn t = false := by
  obtain rfl : f = 8 := Option.some.inj ((show Tryd.prog.funcNamed "timekeeper/timekeeperlaw05.DagBoth" = some 8 by kernel_rfl).symm.trans hf) |>.symm
  obtain rfl : fn = Tryd.f8 := (Option.some.inj (Tryd.func8.symm.trans hfn)).symm
  refine ⟨by kernel_rfl, fun j t ht => ?_⟩
  rw [Tryd.params8] at ht
  have hm : t ∈ [22, 3, 3] := by simpa using Array.mem_of_getElem? ht
  have hall : ([22, 3, 3].all fun u => !Tryd.prog.wantsStandIn u) = true := by kernel_rfl
  exact (show Tryd.prog.wantsStandIn t = false by simpa using List.all_eq_true.1 hall t hm)
theorem proved : Rows.DagBothCardSaid :=
  Claim7.holds_tied_plain_at .later [] _ _ _ _ said (fun _ h => by cases h) (by kernel_rfl) (fun _ h => by cases h) dagBoth_row_tie rfl ⟨rfl, rfl⟩ (by kernel_rfl) rfl plain (by kernel_rfl)
#print axioms proved
end dagBoth
end Go.Proofs.YtaokbjacfdipmaaDoor
