/- RankPaths: for any workflow, the law returns true, and all read afterwards as before. The library's and the program's tables are as the card ties them. -/
import Derived.Test.YtaiolhanbjndcaaGreatDoorRows
import Derived.Test.YtaiolhanbjndcaaGreatDoorCards
import Derived.Test.YtaiolhanbjndcaaGreatDoorTie
import Derived.Test.YtaiolhanbjndcaaGreatDoorRnkF
import Derived.Test.YtaiolhanbjndcaaGreatDoorMBst
import Derived.Test.YtaiolhanbjndcaaGreatDoorMTab
import Derived.WalkKit
import Derived.ProofKit
import Derived.OpenShut
import Derived.ShutString
import Derived.Deep.RegionHeld3
import Derived.ChangeOld
import Derived.Below
import Derived.SevenTiedAt
namespace Go.Proofs.YtaiolhanbjndcaaGreatDoor
open Go.ChangeShapes Go.WideShapes Go.ChangeAt Go.RowKit Go.Lib
open Go.ChangeMaps (open_string shut_string)
open Dag (Ints num)
set_option linter.unusedVariables false
set_option maxRecDepth 100000

theorem path_last {f : FlowD} {P : List Nat} (hP : pathV f = P) (h0 : 0 < P.length) : ∃ b, P[P.length - 1]? = some b ∧ ∀ (v : Nat) (t : TaskD), f.tasks[v]? = some t → decide ((b : Int) ∈ t.after) = false := by
  by_cases h : rankE f (upD f.tasks) = 0
  · obtain ⟨hf, hV, hW⟩ := chk_facts (rankE_chk h)
    have hp : P = tailD f.tasks (atL (rankV f (upD f.tasks))) (nxtD f.tasks (atL (rankV f (upD f.tasks))) (-1)) := by rw [← hP]; unfold pathV; rw [if_pos h]; rfl
    generalize atL (rankV f (upD f.tasks)) = U at hp
    have key : ∀ (n : Nat) (o : Option Nat), leftD f.tasks o ≤ n → (∀ b, o = some b → b < f.tasks.length) → 0 < (tailD f.tasks U o).length → ∃ b, (tailD f.tasks U o)[(tailD f.tasks U o).length - 1]? = some b ∧ nxtD f.tasks U b = none := by
      intro n
      induction n with
      | zero =>
        intro o hl hb h0
        cases o with
        | none => simp [tailD] at h0
        | some b => simp [leftD] at hl
      | succ n ih =>
        intro o hl hb h0
        cases o with
        | none => simp [tailD] at h0
        | some b =>
          rw [tail_step hf hV U (hb b rfl)]
          cases e : nxtD f.tasks U b with
          | none => exact ⟨b, by simp [tailD], e⟩
          | some b' =>
            have h1 := left_step hf hV U (b := b)
            rw [e] at h1
            obtain ⟨x, h2, h3⟩ := ih (some b') (by omega) (fun y hy => by injection hy with hy; subst hy; exact nxt_lt e) (by simp [tailD])
            refine ⟨x, ?_, h3⟩
            rw [List.length_cons, Nat.add_sub_cancel]
            obtain ⟨m, hm⟩ : ∃ m, (tailD f.tasks U (some b')).length = m + 1 := ⟨(tailD f.tasks U (some b')).length - 1, (Nat.sub_add_cancel (by simp [tailD] : 1 ≤ (tailD f.tasks U (some b')).length)).symm⟩
            rw [hm] at h2 ⊢
            rw [List.getElem?_cons_succ]
            exact h2
    obtain ⟨b, h1, h2⟩ := key _ _ (Nat.le_refl _) (fun b e => nxt_lt e) (by rw [← hp]; exact h0)
    rw [← hp] at h1
    refine ⟨b, h1, fun v t ht => ?_⟩
    refine decide_eq_false fun hm => ?_
    have hvl := (List.getElem?_eq_some_iff.1 ht).1
    have hv : v ∈ Dag.behL (afterL f.tasks) b := by
      refine Dag.beh_mem.2 ⟨by rw [afterL_len]; exact hvl, ?_⟩
      unfold Dag.arc
      rw [show Dag.row (afterL f.tasks) v = t.after from by simp [Dag.row, afterL, ht]]
      exact decide_eq_true hm
    rw [nxt_of] at h2
    obtain ⟨x, hx, _⟩ := bstT_nil (U := U) (T := Dag.behL (afterL f.tasks) b) (fun e => by rw [e] at hv; cases hv)
    rw [hx] at h2; cases h2
  · rw [← hP] at h0
    unfold pathV at h0
    rw [if_neg h] at h0
    simp at h0
set_option maxHeartbeats 3200000 in
theorem walk_RankPaths (w : World) (hT : Tb3 w) (f : FlowD) (A : Option Addr) (c : Nat) (h : Tasks w A c f.tasks) (hs : Small f) :
    Calls Tryz.prog 6 #[.agg #[.string (sb f.name), .int .i64 f.deadline, .int .i64 f.priority, .slice A f.tasks.length c]] w fun e w' => e = .returned (.bool true) ∧ Below w.heap.size w w' := by
  have hk := fun W (hW : Below w.heap.size w W) => known7_any W (hT.below hW)
  have hl := fun W (hW : Below w.heap.size w W) => long7_any f A c W (h.below hW) hs
  have HK := Lib.hid hk
  clear hk
  cases hlong : longD f
  case true =>
    rw [hlong] at hl
    have HL := Lib.hid hl
    clear hl
    go_enter Tryz.func6, Tryz.ntmps6
    go_wp2_with fail
    refine (HL.out _ (al _ _)).mono ?_
    rintro e w1 ⟨rfl, hb1⟩
    have HB1 := Lib.hid (blw (al w (flowO f A c)) hb1)
    clear hb1
    go_wp2_with fail
    refine (HK.out _ HB1.out).mono ?_
    rintro e w2 ⟨rfl, hb2⟩
    go_wp2
    go_ret
    exact ⟨rfl, blw HB1.out hb2⟩
  rw [hlong] at hl
  have HL := Lib.hid hl
  have hlen := (longD_no hlong).1
  have HFL := Lib.hid fun W (hW : Below w.heap.size w W) => fla_of7 (h.below hW) (hT.below hW) hlong
  have HLO := Lib.hid hlong
  have C1 := Lib.hid fun W (hW : Below w.heap.size w W) => path_any f A c W (HFL.out W hW)
  have C2 := Lib.hid fun W (hW : Below w.heap.size w W) => rpath_any f A c W (h.below hW) (hT.below hW).1 (by have := (longD_names hlong).1; omega) (fun t ht => by have := ((longD_names hlong).2 t ht).1; omega) hlen
  have H := Lib.hid h
  have hlast := fun P (hP : pathV f = P) => path_last hP
  obtain ⟨P, hP⟩ : ∃ P, pathV f = P := ⟨_, rfl⟩
  obtain ⟨e0, he0⟩ : ∃ v, rankE f (upD f.tasks) = v := ⟨_, rfl⟩
  have HLA := Lib.hid (hlast P hP)
  clear hlast
  rw [hP, he0] at C1 C2
  obtain ⟨m, hm⟩ : ∃ m, P.length = m := ⟨_, rfl⟩
  rw [hm] at C1 C2 HLA
  have HM := Lib.hid hm
  have b1 : (e0 != e0) = false := by simp
  have b2 : ((m : Int) != (m : Int)) = false := by simp
  clear hl h hT hs hlong hP he0 hm
  go_enter Tryz.func6, Tryz.ntmps6
  go_wp2_with fail
  refine (HL.out _ (al _ _)).mono ?_
  rintro e w1 ⟨rfl, hb1⟩
  have HB1 := Lib.hid (blw (al w (flowO f A c)) hb1)
  have HO1 : Hid (w1.heap[w.heap.size]? = some (flowO f A c)) := Lib.hid ((hb1.block _ (by simp)).trans (heap_alloc_new w _))
  clear hb1
  obtain ⟨p0, p1, p2, p3, hp⟩ := flowO_cells HO1.out
  go_wp2_with fail
  refine (C1.out _ HB1.out).mono ?_
  rintro e w2 ⟨B1, d1, rfl, hi, hb⟩
  have HB2 := Lib.hid (blw HB1.out hb)
  have I1 := Lib.hid hi
  have HO2 : Hid (w2.heap[w.heap.size]? = some (flowO f A c)) := Lib.hid ((hb.block _ (Dag.blk_lt HO1.out)).trans HO1.out)
  clear hb p0 p1 p2 p3 hp HO1 hi
  obtain ⟨p0, p1, p2, p3, hp⟩ := flowO_cells HO2.out
  go_wp2_with fail
  refine (C2.out _ HB2.out).mono ?_
  rintro e w3 ⟨B2, d2, rfl, hi, hb⟩
  have HB3 := Lib.hid (blw HB2.out hb)
  have I1 := Lib.hid (I1.out.below hb)
  have I2 := Lib.hid hi
  have HO3 : Hid (w3.heap[w.heap.size]? = some (flowO f A c)) := Lib.hid ((hb.block _ (Dag.blk_lt HO2.out)).trans HO2.out)
  clear hb p0 p1 p2 p3 hp HO2 hi
  obtain ⟨p0, p1, p2, p3, hp⟩ := flowO_cells HO3.out
  have hml : m ≤ 9223372036854775807 := by have h := I1.out.len; rw [Dag.num_len, HM.out] at h; exact Nat.le_trans h (by have := Dag.Sl.top I1.out; simpa [maxLen] using this)
  go_wp2
  go_loopw [7] (fun i wr => ∃ k : Nat, k ≤ m ∧ i = .int .i64 k ∧ Hid (Below w3.heap.size w3 wr)) (fun i _ => m - (intOf i).toNat)
  case atStart => exact ⟨0, Nat.zero_le _, rfl, Lib.hid (Below.refl _ _)⟩
  case round =>
    obtain ⟨k, hk, rfl, HB⟩ := hrel
    by_cases hlt : k < m
    · obtain ⟨x, hx⟩ : ∃ x, P[k]? = some x := ⟨_, List.getElem?_eq_getElem (by rw [HM.out]; exact hlt)⟩
      obtain ⟨g1, o1, e1, c1⟩ := (I1.out.below HB.out).cells k (.int .i64 (x : Int)) (by unfold Dag.ints; rw [List.getElem?_map, Dag.num_get, hx]; rfl)
      obtain ⟨g2, o2, e2, c2⟩ := (I2.out.below HB.out).cells k (.int .i64 (x : Int)) (by unfold Dag.ints; rw [List.getElem?_map, Dag.num_get, hx]; rfl)
      subst e1 e2
      have bx : ((x : Int) != (x : Int)) = false := by simp
      clear hx
      go_wp2_with fail
      go_quiet (fail)
      go_wp2
      go_roundw
      case rel => exact ⟨k + 1, by omega, by go_num, Lib.hid (HB.out.trans ((Dag.below_drew _ _).mono HB.out.size))⟩
      case measure => simp [intOf]; omega
    · obtain rfl : k = m := by omega
      have HB3 := Lib.hid (blw HB3.out HB.out)
      have HO4 : Hid (wr.heap[w.heap.size]? = some (flowO f A c)) := Lib.hid ((HB.out.block _ (Dag.blk_lt HO3.out)).trans HO3.out)
      have I1 := Lib.hid (I1.out.below HB.out)
      clear p0 p1 p2 p3 hp HO3 I2 HB
      obtain ⟨wA, rfl⟩ : ∃ x, x = wr := ⟨wr, rfl⟩
      obtain ⟨p0, p1, p2, p3, hp⟩ := flowO_cells HO4.out
      have hnl := H.out.lenI
      go_wp2
      go_loopw [8] (fun v wr => ∃ k : Nat, k ≤ f.tasks.length ∧ v = .int .i64 k ∧ Hid (Below wA.heap.size wA wr)) (fun v _ => f.tasks.length - (intOf v).toNat)
      case atStart => exact ⟨0, Nat.zero_le _, rfl, Lib.hid (Below.refl _ _)⟩
      case round =>
        obtain ⟨j, hj, rfl, HB⟩ := hrel
        have HO5 : Hid (wr.heap[w.heap.size]? = some (flowO f A c)) := Lib.hid ((HB.out.block _ (Dag.blk_lt HO4.out)).trans HO4.out)
        clear p0 p1 p2 p3 hp
        obtain ⟨p0, p1, p2, p3, hp⟩ := flowO_cells HO5.out
        have HBW := Lib.hid (blw HB3.out HB.out)
        by_cases hgo : j < f.tasks.length ∧ 0 < k
        · obtain ⟨hjl, hk0⟩ := hgo
          obtain ⟨t, ht⟩ : ∃ t, f.tasks[j]? = some t := ⟨_, List.getElem?_eq_getElem hjl⟩
          obtain ⟨bt, off, A2, c2, eA, h0, h1, h2, h3, h4, h5, hI⟩ := (H.out.below HBW.out).cells j t ht
          subst eA
          obtain ⟨k1, hk1⟩ : ∃ k1, k - 1 = k1 := ⟨_, rfl⟩
          obtain ⟨b, hb1, hb2⟩ := HLA.out hk0
          rw [hk1] at hb1
          obtain ⟨g1, o1, e1, cp⟩ := (I1.out.below HB.out).cells k1 (.int .i64 (b : Int)) (by unfold Dag.ints; rw [List.getElem?_map, Dag.num_get, hb1]; rfl)
          subst e1
          have hwk : IntKind.i64.wrap ((k : Int) - 1) = (k1 : Int) := by rw [IntWalk.i64_in _ (by omega)]; omega
          have hk1l : k1 < k := by omega
          have hbb := hb2 j t ht
          have HH := Lib.hid fun W (hW : Below wr.heap.size wr W) => Dag.hasI_any t.after _ rfl (b : Int) W A2 c2 (hI.below hW) false hbb
          obtain ⟨la, hla⟩ : ∃ la, t.after.length = la := ⟨_, rfl⟩
          rw [hla] at h5 HH
          have hz0 : (0 : Int) < (k : Int) := by omega
          clear ht hI hb1 hb2 hbb hk1 hla h0 h1 h2 h3 h4
          go_wp2_with fail
          have s0 : wr.drew.cell? ⟨w.heap.size, 3, none⟩ = some (.slice (some ⟨bt, off, none⟩) f.tasks.length c) ∧ wr.drew.cell? ⟨bt, off + j * 6 + 5, none⟩ = some (.slice A2 la c2) ∧ wr.drew.cell? ⟨g1, o1 + k1, none⟩ = some (.int .i64 (b : Int)) ∧ Below wr.heap.size wr wr.drew := ⟨p3, h5, cp, Sri.dr wr⟩
          clear p0 p1 p2 p3 hp h5 cp
          go_region_held3 (fun (W : World) => W.cell? ⟨w.heap.size, 3, none⟩ = some (.slice (some ⟨bt, off, none⟩) f.tasks.length c) ∧ W.cell? ⟨bt, off + j * 6 + 5, none⟩ = some (.slice A2 la c2) ∧ W.cell? ⟨g1, o1 + k1, none⟩ = some (.int .i64 (b : Int)) ∧ Below wr.heap.size wr W) (first | exact s0) (first
            | (go_at_call 24; refine (HH.out _ s0.2.2.2).mono ?_; rintro e x1 ⟨rfl, rfl⟩))
          have HBN := Lib.hid (blw HB.out s0.2.2.2)
          clear s0
          go_wp2
          go_roundw
          case rel => exact ⟨j + 1, by omega, by go_num, HBN⟩
          case measure => simp [intOf]; omega
        · have hE : (j : Int) < (f.tasks.length : Int) ∧ (0 : Int) < (k : Int) → False := fun h => hgo ⟨by omega, by omega⟩
          have HBE := Lib.hid (blw HB3.out HB.out)
          by_cases hjl : (j : Int) < (f.tasks.length : Int)
          · have hk0 : ¬ (0 : Int) < (k : Int) := fun h => hE ⟨hjl, h⟩
            clear hE hgo
            go_wp2_with fail
            refine (HK.out _ HBE.out).mono ?_
            rintro e wk ⟨rfl, hbk⟩
            go_wp2
            go_ret
            exact ⟨rfl, blw HBE.out hbk⟩
          · clear hE hgo
            go_wp2_with fail
            refine (HK.out _ HBE.out).mono ?_
            rintro e wk ⟨rfl, hbk⟩
            go_wp2
            go_ret
            exact ⟨rfl, blw HBE.out hbk⟩

namespace rankPaths
theorem own : ownKnob Tryz.prog.godebug = none := by kernel_rfl
theorem laidOut : laidOutB Tryz.prog = true := by kernel_rfl
set_option maxRecDepth 100000 in
theorem lifted (os : Os) (started : os.Started) (H : Type) (enc : TypeId × Value → H) :
    ReturnsInHanded {} Tryz.checked os 6 .any (fun w args => (Rows.rankPathsSpec.pre enc Tryz.prog Tryz.f6 [] false w args ∧ laidMetH Tryz.prog laid7 w) ∧ sizedMet enc Tryz.prog Tryz.f6 (OpenSpec.ofChange Rows.rankPathsSpec) false w args)
      (Rows.rankPathsSpec.post enc Tryz.prog Tryz.f6 false true false false) := by
  refine returnsInHanded_of_change_and (C := Tryz.checked) (X := fun w _ => laidMetH Tryz.prog laid7 w) (fun _ _ _ hh h => h.of_heap hh) own started (by kernel_rfl) Tryz.func6
    (ChangeSpec.witness_shaped (enc := enc) (C := Tryz.checked) (os := os) (X := fun w _ => laidMetH Tryz.prog laid7 w) false (World.laidAll Tryz.prog os laid7) #[.agg #[.string ByteArray.empty, .int .i64 0, .int .i64 0, .slice none 0 0]] 8 (World.laidAll_os _ _ _)
      (World.shaped_of_ZipB (by kernel_rfl) (by kernel_rfl)) (by kernel_rfl) (by kernel_rfl) (by kernel_rfl)
      (by rw [MakeChecks.laidMetH_plain _ _ _ (by kernel_rfl)]; exact laidMet_laidAll _ (by kernel_rfl) (by kernel_rfl))) ?_
  intro W base args ds gs before hval0 hW _ hsz hL _
  have hval : ∀ (j : Nat) t v, Tryz.f6.params[j]? = some t → args[j]? = some v → Value.okWide Tryz.prog W .any base t v := hval0
  have hW' := hW
  obtain ⟨p, q, hA0, hV, rfl, _, _⟩ := hW
  have hA : DataW.TrodAll enc Tryz.prog W 0 (fun _ => true) true Tryz.f6.params.toList args.toList ds p := hA0
  rw [Tryz.params6] at hA hval
  obtain ⟨v0, vs0, d0, ds0, p0, q0, hargs, rfl, rfl, h0, r0⟩ := trodAll_cons hA
  obtain ⟨rfl, rfl, rfl⟩ := trodAll_nil r0
  obtain rfl : args = #[v0] := by cases args; simp_all
  obtain ⟨rfl, rfl⟩ := trodVars_none hV
  have k0 := h0
  have lt0 : ∀ x ∈ p0, x.block < W.heap.size := by obtain ⟨m, hm⟩ := k0; exact DataW.trod_lt m _ _ _ hm
  obtain ⟨cs0, e0, _⟩ := okWide_struct Tryz.underlying24 (hval 0 24 v0 rfl rfl)
  obtain ⟨fuel0, hf0⟩ := h0
  rw [show v0.cells.toList = cs0.toList from by rw [e0]; rfl] at hf0
  obtain ⟨z0, A0, c0, hcs0, w0, s0⟩ := flow_arg hf0
  obtain rfl : cs0 = #[.string (sb z0.name), .int .i64 z0.deadline, .int .i64 z0.priority, .slice A0 z0.tasks.length c0] := by rw [← Array.toArray_toList (xs := cs0), hcs0]
  subst e0
  have s0 := s0 (weights_at hsz (j := 0) (t := 24) rfl rfl)
  clear hf0 hcs0
  clear hA0 hval0
  rw [MakeChecks.laidMetH_plain _ _ _ (by kernel_rfl)] at hL
  refine (walk_RankPaths W (tabs_of hL) z0 A0 c0 w0 s0).mono fun e W' ⟨he, bel⟩ => ?_
  subst he
  exact ⟨_, rfl, _, _, _, [], _, [], hW', trodAll_mk1 (shut_bool Tryz.underlying4 _), (trodAll_cons_mk (Below.trod laidOut (by kernel_rfl) (of_decide_eq_true (by kernel_rfl)) k0 bel lt0) trodAll_mk0), rfl, bel.frame _, fun h => by cases h⟩
theorem said : Rows.RankPathsSaid :=
  OpenClaim.holds_of_wide 6 Tryz.f6 rfl rfl rfl rfl rfl rfl rfl ⟨rfl, rfl, rfl, rfl, rfl⟩ rfl rfl rfl rfl rfl (by kernel_rfl) Tryz.func6 (by kernel_rfl)
    (of_decide_eq_true (by kernel_rfl)) (by unfold Func.isWrapper; first | (rw [if_pos (by decide +kernel)]; kernel_rfl) | (rw [if_neg (by decide +kernel)]; exact ⟨rfl, rfl⟩))
    (fun os started H enc _ => lifted os started H enc)
theorem plain (f : FuncId) (fn : Func) (hf : Tryz.pinned.checked.prog.funcNamed "timekeeper/timekeeperlaw07.RankPaths" = some f) (hfn : Tryz.pinned.checked.prog.funcs[f]? = some fn) :
    false = Tryz.pinned.checked.prog.looks [] ∧ ∀ (j : Nat) t, fn.params[j]? = some t → Tryz.pinned.checked.prog.wantsStandIn t = false := by
  obtain rfl : f = 6 := Option.some.inj ((show Tryz.prog.funcNamed "timekeeper/timekeeperlaw07.RankPaths" = some 6 by kernel_rfl).symm.trans hf) |>.symm
  obtain rfl : fn = Tryz.f6 := (Option.some.inj (Tryz.func6.symm.trans hfn)).symm
  refine ⟨by kernel_rfl, fun j t ht => ?_⟩
  rw [Tryz.params6] at ht
  have hm : t ∈ [24] := by simpa using Array.mem_of_getElem? ht
  have hall : ([24].all fun u => !Tryz.prog.wantsStandIn u) = true := by kernel_rfl
  exact (show Tryz.prog.wantsStandIn t = false by simpa using List.all_eq_true.1 hall t hm)
theorem proved : Rows.RankPathsCardSaid :=
  Claim7.holds_tied_plain_at .later [] _ _ _ _ said (fun _ h => by cases h) (by kernel_rfl) (fun _ h => by cases h) rankPaths_row_tie rfl ⟨rfl, rfl⟩ (by kernel_rfl) rfl plain (by kernel_rfl)
#print axioms proved
end rankPaths
end Go.Proofs.YtaiolhanbjndcaaGreatDoor

