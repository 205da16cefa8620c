/- SplitSlack: for any workflow, any number and any number more, the law returns true, and all read afterwards as before. The library's and the program's tables are as the card ties them. -/
import Derived.Test.YtmnehhphabiffaaDoorRows
import Derived.Test.YtmnehhphabiffaaDoorCards
import Derived.Test.YtmnehhphabiffaaDoorTie
import Derived.Test.YtmnehhphabiffaaDoorSplG
import Derived.Test.YtmnehhphabiffaaDoorSplJ
import Derived.WalkKit
import Derived.ProofKit
import Derived.OpenShut
import Derived.ShutString
import Derived.Deep.RegionHeld3
import Derived.ChangeOld
import Derived.Below
import Derived.SevenTiedAt
namespace Go.Proofs.YtmnehhphabiffaaDoor
open Go.ChangeShapes Go.WideShapes Go.ChangeAt Go.RowKit Go.Lib
open Go.ChangeMaps (open_string shut_string)
open Dag (Ints)
set_option linter.unusedVariables false
set_option maxRecDepth 100000

/-- nothing is free somewhere at the earliest time -/
theorem slk_none {f : FlowD} {now : Int} (h : earE f now = 0) : f.tasks.length = 0 ∨ ∃ v, v < f.tasks.length ∧ slk1 f.tasks now (now + lengthV f) v = 0 := by
  obtain ⟨h1, h2, h3⟩ := ear_yes h
  have hr := rk_ok h2
  rcases Nat.eq_zero_or_pos f.tasks.length with h0 | h0
  · exact Or.inl h0
  · refine Or.inr ?_
    rcases hr.top with ht | ⟨v, hv, ht⟩
    · refine ⟨0, h0, ?_⟩
      have := hr.dn0 0 h0; have := hr.up 0 h0; have := hr.wt0 0; have := hr.sum 0 h0
      unfold slk1; omega
    · refine ⟨v, hv, ?_⟩
      have := hr.dn0 v hv; have := hr.sum v hv
      unfold slk1; omega
theorem ear_win {f : FlowD} {now : Int} (h : earE f now = 0) : winE f now (now + lengthV f) = 0 := by
  obtain ⟨h1, h2, h3⟩ := ear_yes h
  have hb := lenV_bd f
  have i1 := isT_iff.1 h1
  unfold maxT at h3
  exact win_iff.2 ⟨h1, isT_iff.2 ⟨by omega, h3⟩, h, Int.le_refl _⟩
set_option maxHeartbeats 3200000 in
theorem walk_SplitSlack (w : World) (hT : Tb3 w) (f : FlowD) (A : Option Addr) (c : Nat) (h : Tasks w A c f.tasks) (hs : Small f) (now : Int) (hw1 : (Lit.int .i64 now).wf = true) (m : Int) (hw3 : (Lit.int .u16 m).wf = true) :
    Calls Tryd.prog 11 #[.agg #[.string (sb f.name), .int .i64 f.deadline, .int .i64 f.priority, .slice A f.tasks.length c], .int .i64 now, .int .u16 m] w fun e w' => e = .returned (.bool true) ∧ Below w.heap.size w w' := by
  have hm := u16_bd hw3
  clear hw3
  have hk := fun W (hW : Below w.heap.size w W) => known8_any W (hT.below hW)
  have hl := fun W (hW : Below w.heap.size w W) => long8_any f A c W (h.below hW) hs
  have HK := Lib.hid hk
  clear hk
  cases hlong : longD f
  case true =>
    rw [hlong] at hl
    have HL := Lib.hid hl
    clear hl hw1
    go_enter Tryd.func11, Tryd.ntmps11
    go_wp2_with fail
    refine (HL.out _ (al _ _)).mono ?_
    rintro e w1 ⟨rfl, hb1⟩
    have HB1 := Lib.hid (blw (al w (flowO f A c)) hb1)
    clear hb1
    go_wp2_with fail
    refine (HK.out _ HB1.out).mono ?_
    rintro e w2 ⟨rfl, hb2⟩
    go_wp2
    go_ret
    exact ⟨rfl, blw HB1.out hb2⟩
  rw [hlong] at hl
  have HL := Lib.hid hl
  have hlen := (longD_no hlong).1
  obtain ⟨e0, he0⟩ : ∃ e0, earE f now = e0 := ⟨_, rfl⟩
  obtain ⟨v0, hv0⟩ : ∃ v0, earV f now = v0 := ⟨_, rfl⟩
  have HE := Lib.hid fun W (hW : Below w.heap.size w W) => ear_any f A c now W (fla_of (h.below hW) (hT.below hW) hlong) v0 e0 hv0 he0
  have HS := Lib.hid fun (b : Int) W (hW : Below w.heap.size w W) => slack_any f A c now b W (fla_of (h.below hW) (hT.below hW) hlong)
  have HV : Hid (earV f now = v0) := Lib.hid hv0
  have hwm : IntKind.i64.wrap m = m := by rw [IntKind.wrap_i64]; omega
  clear hl h hT hw1 hlong hv0
  go_enter Tryd.func11, Tryd.ntmps11
  go_wp2_with fail
  refine (HL.out _ (al _ _)).mono ?_
  rintro e w1 ⟨rfl, hb1⟩
  have HB1 := Lib.hid (blw (al w (flowO f A c)) hb1)
  have HO1 : Hid (w1.heap[w.heap.size]? = some (flowO f A c)) := Lib.hid ((hb1.block _ (by simp)).trans (heap_alloc_new w _))
  clear hb1
  obtain ⟨p0, p1, p2, p3, hp⟩ := flowO_cells HO1.out
  go_wp2_with fail
  refine (HE.out _ HB1.out).mono ?_
  rintro e w2 ⟨rfl, hb2⟩
  have HB2 := Lib.hid (blw HB1.out hb2)
  have HO2 : Hid (w2.heap[w.heap.size]? = some (flowO f A c)) := Lib.hid ((hb2.block _ (Dag.blk_lt HO1.out)).trans HO1.out)
  clear hb2 p0 p1 p2 p3 hp HO1
  obtain ⟨p0, p1, p2, p3, hp⟩ := flowO_cells HO2.out
  by_cases h0 : e0 = 0
  case neg =>
    have hxn : (e0 != 0) = true := by simp [h0]
    clear h0 he0
    go_wp2_with fail
    refine (HK.out _ HB2.out).mono ?_
    rintro e wk ⟨rfl, hbk⟩
    go_wp2
    go_ret
    exact ⟨rfl, blw HB2.out hbk⟩
  subst h0
  have hv : v0 = now + lengthV f := by rw [← HV.out]; unfold earV; rw [he0, if_pos rfl]
  have g1 := ear_win he0
  have gn := slk_none he0
  rw [← hv] at g1 gn
  have gm := win_more g1 hm.1
  have gf := win_facts g1
  have hvb : 0 ≤ v0 ∧ v0 ≤ 1099511627775 := by
    obtain ⟨q1, _, q3⟩ := ear_yes he0
    have q4 := isT_iff.1 q1
    have q5 := lenV_bd f
    unfold maxT at q3
    omega
  have G1 := Lib.hid g1; have GN := Lib.hid gn; have GM := Lib.hid gm; have GF := Lib.hid gf
  have hvm : IntKind.i64.wrap (v0 + m) = v0 + m := by rw [IntKind.wrap_i64]; omega
  clear he0 hv g1 gn gm gf
  go_wp2_with fail
  refine (HS.out v0 _ HB2.out).mono ?_
  rintro e w3 ⟨A3, c3, rfl, hi3, hb3⟩
  have HB3 := Lib.hid (blw HB2.out hb3)
  have HO3 : Hid (w3.heap[w.heap.size]? = some (flowO f A c)) := Lib.hid ((hb3.block _ (Dag.blk_lt HO2.out)).trans HO2.out)
  have HI3 := Lib.hid hi3
  clear hi3
  clear hb3 p0 p1 p2 p3 hp HO2
  obtain ⟨p0, p1, p2, p3, hp⟩ := flowO_cells HO3.out
  rw [G1.out, (win_len G1.out).2.2]
  go_wp2_with fail
  refine (HS.out (v0 + m) _ HB3.out).mono ?_
  rintro e w4 ⟨A4, c4, rfl, hi4, hb4⟩
  have HB4 := Lib.hid (blw HB3.out hb4)
  have HO4 : Hid (w4.heap[w.heap.size]? = some (flowO f A c)) := Lib.hid ((hb4.block _ (Dag.blk_lt HO3.out)).trans HO3.out)
  have HI4 := Lib.hid hi4
  have HI3' := Lib.hid (HI3.out.below hb4)
  clear hi4 HI3
  clear hb4 p0 p1 p2 p3 hp HO3
  obtain ⟨p0, p1, p2, p3, hp⟩ := flowO_cells HO4.out
  rcases GM.out with ⟨_, g2, _⟩ | ⟨g2, _⟩
  · rw [g2]
    clear g2
    go_wp2_with fail
    refine (HK.out _ HB4.out).mono ?_
    rintro e wk ⟨rfl, hbk⟩
    go_wp2
    go_ret
    exact ⟨rfl, blw HB4.out hbk⟩
  rw [g2, (win_len g2).2.2]
  have G2 := Lib.hid g2
  clear g2
  obtain ⟨n0, hn0⟩ : ∃ n0 : Bool, decide (f.tasks.length = 0) = n0 := ⟨_, rfl⟩
  have hn1 : ((f.tasks.length : Int) == 0) = n0 := by rw [← hn0]; by_cases h : f.tasks.length = 0 <;> simp [h]
  have HN0 := Lib.hid hn0
  clear hn0
  go_wp2
  go_loopw [13, 14] (fun nn i wr => ∃ (k : Nat) (bn : Bool), k ≤ f.tasks.length ∧ i = .int .i64 k ∧ nn = .bool bn ∧ Hid (bn = (n0 || (List.range k).any fun v => decide (slk1 f.tasks now v0 v = 0))) ∧ Hid (Below w4.heap.size w4 wr)) (fun _ i _ => f.tasks.length - (intOf i).toNat)
  case atStart => exact ⟨0, n0, Nat.zero_le _, rfl, rfl, Lib.hid (by simp), Lib.hid (Below.refl _ _)⟩
  case round =>
    obtain ⟨k, bn, hk, rfl, rfl, HBN, HX⟩ := hrel
    by_cases hlt : k < f.tasks.length
    · obtain ⟨b1, o1, e1, a1⟩ := (HI3'.out.below HX.out).cells k (.int .i64 (slk1 f.tasks now v0 k)) (by unfold Dag.ints; rw [List.getElem?_map, (win_get G1.out hlt).2.2]; rfl)
      obtain ⟨b2, o2, e2, a2⟩ := (HI4.out.below HX.out).cells k (.int .i64 (slk1 f.tasks now (v0 + m) k)) (by unfold Dag.ints; rw [List.getElem?_map, (win_get G2.out hlt).2.2]; rfl)
      subst e1 e2
      have hs2 : slk1 f.tasks now (v0 + m) k = slk1 f.tasks now v0 k + m := by unfold slk1; omega
      have hsb : 0 ≤ slk1 f.tasks now v0 k ∧ slk1 f.tasks now v0 k ≤ 1099511627775 := by
        obtain ⟨hr, q1, q2, q3, _⟩ := GF.out
        have := hr.sum k hlt; have := hr.dn0 k hlt; have := hr.up k hlt; have := hr.wt0 k
        unfold maxT at q2
        unfold slk1; omega
      rw [hs2] at a2
      obtain ⟨sv, hsv⟩ : ∃ sv, slk1 f.tasks now v0 k = sv := ⟨_, rfl⟩
      rw [hsv] at a1 a2 hsb
      have hz : IntKind.i64.wrap (sv + m) = sv + m := by rw [IntKind.wrap_i64]; omega
      have HBN2 : Hid ((bn || decide (sv = 0)) = (n0 || (List.range (k + 1)).any fun v => decide (slk1 f.tasks now v0 v = 0))) := Lib.hid (by
        rw [HBN.out, List.range_succ, List.any_append, List.any_cons, List.any_nil, hsv, Bool.or_false, Bool.or_assoc])
      have hlk := World.block_lt_of_cell? wr _ a1
      clear hs2 hsv
      cases bn with
      | true =>
        have HT2 : Hid (true = (n0 || (List.range (k + 1)).any fun v => decide (slk1 f.tasks now v0 v = 0))) := Lib.hid (by rw [← HBN2.out]; rfl)
        go_wp2_with fail
        go_quiet (fail)
        go_wp2
        go_roundw
        case rel => exact ⟨k + 1, _, by omega, by go_num, rfl, HT2, Lib.hid (blw HX.out (bdrew _ _))⟩
        case measure => simp [intOf]; omega
      | false =>
        by_cases hs0 : sv = 0
        · subst hs0
          have HT2 : Hid (true = (n0 || (List.range (k + 1)).any fun v => decide (slk1 f.tasks now v0 v = 0))) := Lib.hid (by rw [← HBN2.out]; rfl)
          go_wp2_with fail
          go_quiet (fail)
          go_wp2
          go_roundw
          case rel => exact ⟨k + 1, _, by omega, by go_num, rfl, HT2, Lib.hid (blw HX.out (bdrew _ _))⟩
          case measure => simp [intOf]; omega
        · have hsf : (sv == 0) = false := by rw [beq_eq_false_iff_ne]; exact hs0
          have HT2 : Hid (false = (n0 || (List.range (k + 1)).any fun v => decide (slk1 f.tasks now v0 v = 0))) := Lib.hid (by rw [← HBN2.out, decide_eq_false hs0]; rfl)
          go_wp2_with fail
          go_quiet (fail)
          go_wp2
          go_roundw
          case rel => exact ⟨k + 1, _, by omega, by go_num, rfl, HT2, Lib.hid (blw HX.out (bdrew _ _))⟩
          case measure => simp [intOf]; omega
    · obtain rfl : k = f.tasks.length := by omega
      obtain rfl : bn = true := by
        rw [HBN.out]
        rcases GN.out with h0 | ⟨v, hv, hz⟩
        · rw [← HN0.out, decide_eq_true h0]; rfl
        · rw [List.any_eq_true.2 ⟨v, List.mem_range.2 hv, decide_eq_true hz⟩, Bool.or_true]
      go_wp2_with fail
      refine (HK.out _ (blw HB4.out HX.out)).mono ?_
      rintro e w5 ⟨rfl, hb5⟩
      go_wp2
      go_ret
      exact ⟨rfl, blw (blw HB4.out HX.out) hb5⟩

namespace splitSlack
theorem own : ownKnob Tryd.prog.godebug = none := by kernel_rfl
theorem laidOut : laidOutB Tryd.prog = true := by kernel_rfl
set_option maxRecDepth 100000 in
theorem lifted (os : Os) (started : os.Started) (H : Type) (enc : TypeId × Value → H) :
    ReturnsInHanded {} Tryd.checked os 11 .any (fun w args => (Rows.splitSlackSpec.pre enc Tryd.prog Tryd.f11 [] false w args ∧ laidMetH Tryd.prog laid7 w) ∧ sizedMet enc Tryd.prog Tryd.f11 (OpenSpec.ofChange Rows.splitSlackSpec) false w args)
      (Rows.splitSlackSpec.post enc Tryd.prog Tryd.f11 false true false false) := by
  refine returnsInHanded_of_change_and (C := Tryd.checked) (X := fun w _ => laidMetH Tryd.prog laid7 w) (fun _ _ _ hh h => h.of_heap hh) own started (by kernel_rfl) Tryd.func11
    (ChangeSpec.witness_shaped (enc := enc) (C := Tryd.checked) (os := os) (X := fun w _ => laidMetH Tryd.prog laid7 w) false (World.laidAll Tryd.prog os laid7) #[.agg #[.string ByteArray.empty, .int .i64 0, .int .i64 0, .slice none 0 0], .int .i64 0, .int .u16 0] 8 (World.laidAll_os _ _ _)
      (World.shaped_of_ZipB (by kernel_rfl) (by kernel_rfl)) (by kernel_rfl) (by kernel_rfl) (by kernel_rfl)
      (by rw [MakeChecks.laidMetH_plain _ _ _ (by kernel_rfl)]; exact laidMet_laidAll _ (by kernel_rfl) (by kernel_rfl))) ?_
  intro W base args ds gs before hval0 hW _ hsz hL _
  have hval : ∀ (j : Nat) t v, Tryd.f11.params[j]? = some t → args[j]? = some v → Value.okWide Tryd.prog W .any base t v := hval0
  have hW' := hW
  obtain ⟨p, q, hA0, hV, rfl, _, _⟩ := hW
  have hA : DataW.TrodAll enc Tryd.prog W 0 (fun _ => true) true Tryd.f11.params.toList args.toList ds p := hA0
  rw [Tryd.params11] at hA hval
  obtain ⟨v0, vs0, d0, ds0, p0, q0, hargs, rfl, rfl, h0, r0⟩ := trodAll_cons hA
  obtain ⟨v1, vs1, d1, ds1, p1, q1, rfl, rfl, rfl, h1, r1⟩ := trodAll_cons r0
  obtain ⟨v2, vs2, d2, ds2, p2, q2, rfl, rfl, rfl, h2, r2⟩ := trodAll_cons r1
  obtain ⟨rfl, rfl, rfl⟩ := trodAll_nil r2
  obtain rfl : args = #[v0, v1, v2] := by cases args; simp_all
  obtain ⟨rfl, rfl⟩ := trodVars_none hV
  have k0 := h0
  have lt0 : ∀ x ∈ p0, x.block < W.heap.size := by obtain ⟨m, hm⟩ := k0; exact DataW.trod_lt m _ _ _ hm
  obtain ⟨cs0, e0, _⟩ := okWide_struct Tryd.underlying24 (hval 0 24 v0 rfl rfl)
  obtain ⟨fuel0, hf0⟩ := h0
  rw [show v0.cells.toList = cs0.toList from by rw [e0]; rfl] at hf0
  obtain ⟨z0, A0, c0, hcs0, w0, s0⟩ := flow_arg hf0
  obtain rfl : cs0 = #[.string (sb z0.name), .int .i64 z0.deadline, .int .i64 z0.priority, .slice A0 z0.tasks.length c0] := by rw [← Array.toArray_toList (xs := cs0), hcs0]
  subst e0
  have s0 := s0 (weights_at hsz (j := 0) (t := 24) rfl rfl)
  clear hf0 hcs0
  obtain ⟨a1, rfl, rfl, rfl, w1⟩ := open_int Tryd.underlying3 (hval 1 3 v1 rfl rfl) h1
  obtain ⟨a2, rfl, rfl, rfl, w2⟩ := open_int Tryd.underlying53 (hval 2 53 v2 rfl rfl) h2
  clear hA0 hval0
  rw [MakeChecks.laidMetH_plain _ _ _ (by kernel_rfl)] at hL
  refine (walk_SplitSlack W (tabs_of hL) z0 A0 c0 w0 s0 a1 w1 a2 w2).mono fun e W' ⟨he, bel⟩ => ?_
  subst he
  exact ⟨_, rfl, _, _, _, [], _, [], hW', trodAll_mk1 (shut_bool Tryd.underlying4 _), (trodAll_cons_mk (Below.trod laidOut (by kernel_rfl) (of_decide_eq_true (by kernel_rfl)) k0 bel lt0) (trodAll_cons_mk (shut_int Tryd.underlying3 w1) (trodAll_cons_mk (shut_int Tryd.underlying53 w2) trodAll_mk0))), rfl, bel.frame _, fun h => by cases h⟩
theorem said : Rows.SplitSlackSaid :=
  OpenClaim.holds_of_wide 11 Tryd.f11 rfl rfl rfl rfl rfl rfl rfl ⟨rfl, rfl, rfl, rfl, rfl⟩ rfl rfl rfl rfl rfl (by kernel_rfl) Tryd.func11 (by kernel_rfl)
    (of_decide_eq_true (by kernel_rfl)) (by unfold Func.isWrapper; first | (rw [if_pos (by decide +kernel)]; kernel_rfl) | (rw [if_neg (by decide +kernel)]; exact ⟨rfl, rfl⟩))
    (fun os started H enc _ => lifted os started H enc)
theorem plain (f : FuncId) (fn : Func) (hf : Tryd.pinned.checked.prog.funcNamed "timekeeper/timekeeperlaw08.SplitSlack" = some f) (hfn : Tryd.pinned.checked.prog.funcs[f]? = some fn) :
    false = Tryd.pinned.checked.prog.looks [] ∧ ∀ (j : Nat) t, fn.params[j]? = some t → Tryd.pinned.checked.prog.wantsStandIn t = false := by
  obtain rfl : f = 11 := Option.some.inj ((show Tryd.prog.funcNamed "timekeeper/timekeeperlaw08.SplitSlack" = some 11 by kernel_rfl).symm.trans hf) |>.symm
  obtain rfl : fn = Tryd.f11 := (Option.some.inj (Tryd.func11.symm.trans hfn)).symm
  refine ⟨by kernel_rfl, fun j t ht => ?_⟩
  rw [Tryd.params11] at ht
  have hm : t ∈ [24, 3, 53] := by simpa using Array.mem_of_getElem? ht
  have hall : ([24, 3, 53].all fun u => !Tryd.prog.wantsStandIn u) = true := by kernel_rfl
  exact (show Tryd.prog.wantsStandIn t = false by simpa using List.all_eq_true.1 hall t hm)
theorem proved : Rows.SplitSlackCardSaid :=
  Claim7.holds_tied_plain_at .later [] _ _ _ _ said (fun _ h => by cases h) (by kernel_rfl) (fun _ h => by cases h) splitSlack_row_tie rfl ⟨rfl, rfl⟩ (by kernel_rfl) rfl plain (by kernel_rfl)
#print axioms proved
end splitSlack
end Go.Proofs.YtmnehhphabiffaaDoor

