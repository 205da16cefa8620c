/- FlowLines: for any words the law returns true, and all read afterwards as before. The library's and the program's tables are as the card ties them. -/
import Derived.Test.YtdcfakbelnpljaaGreatDoorRows
import Derived.Test.YtdcfakbelnpljaaGreatDoorCards
import Derived.Test.YtdcfakbelnpljaaGreatDoorTie
import Derived.Test.YtdcfakbelnpljaaGreatDoorFlwRLin
import Derived.Test.YtdcfakbelnpljaaGreatDoorFlwTabs
import Derived.Deep.Strs
import Derived.WalkKit
import Derived.ProofKit
import Derived.OpenShut
import Derived.ShutString
import Derived.ChangeOld
import Derived.Below
import Derived.SevenTiedAt
namespace Go.Proofs.YtdcfakbelnpljaaGreatDoor
open Go.ChangeShapes Go.WideShapes Go.ChangeAt Go.RowKit Go.Lib
open Go.ChangeMaps (open_string shut_string)
open Dag (Sl)
set_option linter.unusedVariables false
set_option maxRecDepth 100000

theorem words_arg {H : Type} {enc : TypeId × Value → H} {w : World} {fuel : Nat} {v : Value} {x : DataW H × List MemPlace} (h : DataW.trod enc Tryz.prog w 0 (fun _ => true) true fuel 41 [v] = some x) :
    ∃ (A : Option Addr) (c : Nat) (l : List (List UInt8)), v = .slice A l.length c ∧ Words w A c l ∧ (Sz 41 x.1 → l.length ≤ 8796093022207 ∧ ∀ s ∈ l, s.length ≤ reachN) := by
  rcases Go.Deep.open_strs Tryz.underlying41 Tryz.underlying9 (by kernel_rfl) h with ⟨hcs, hx⟩ | ⟨a, l, c, m, Sx, hcs, _, hl, hm, hmm, hx, hcell⟩
  · simp at hcs
    subst hcs hx
    exact ⟨none, 0, [], rfl, Sl.empty _, fun _ => ⟨Nat.zero_le _, fun s hs => by cases hs⟩⟩
  · simp at hcs
    subst hcs
    simp only [if_true] at hmm
    have hlen : ((List.range l).map fun i => (Sx i).data.toList).length = l := by simp
    refine ⟨some a, c, (List.range l).map fun i => (Sx i).data.toList, by rw [hlen], ⟨fun k u hu => ?_, by rw [strs_len, hlen]; exact hl, hm, fun e => by cases e⟩, fun hz => ⟨?_, fun s hs => ?_⟩⟩
    · obtain ⟨s, hs, rfl⟩ := strs_get' hu
      have hk : k < l := by have := (List.getElem?_eq_some_iff.1 hs).1; rwa [hlen] at this
      rw [List.getElem?_map, List.getElem?_range hk] at hs
      injection hs with hs
      subst hs
      obtain ⟨b, off, spot⟩ := a
      have hspot : spot = none := by simpa [Addr.add] using World.cell?_spot (hcell 0 (by omega)).1
      subst hspot
      refine ⟨b, off, rfl, ?_⟩
      have := (hcell k (by omega)).1
      rw [sb_data]
      simpa only [Go.WideShapes.add_plain] using this
    · rw [hlen]
      unfold Sz at hz
      rw [hx] at hz
      have hb : Tryz.prog.bytesOf 9 = 16 := by kernel_rfl
      simp only [DataW.weights, Tryz.underlying41, List.all_cons, Bool.and_eq_true, hb] at hz
      have := of_decide_eq_true hz.1
      simp at this
      rw [reach_eq] at this
      unfold reachN at this
      omega
    · obtain ⟨i, hi, rfl⟩ := List.mem_map.1 hs
      refine lit_sz (H := H) ?_
      unfold Sz at hz
      rw [hx] at hz
      simp only [DataW.weights, Tryz.underlying41, List.all_cons, List.all_append, Bool.and_eq_true] at hz
      exact all_at hz.2.1 (List.mem_map.2 ⟨i, hi, rfl⟩)
theorem Words.zs {w : World} {A : Option Addr} {c : Nat} {l : List (List UInt8)} (h : Words w A c l) : Txt.Strs w A (l.map sb) := fun k x hx => by
  rw [List.getElem?_map] at hx
  cases hs : l[k]? with
  | none => rw [hs] at hx; cases hx
  | some s =>
    rw [hs] at hx
    injection hx with hx
    subst hx
    obtain ⟨b, off, e, hc⟩ := h.cells k _ (strs_get hs)
    exact ⟨b, off, e, World.block_lt_of_cell? w _ hc, hc⟩
theorem lineWs_len (l : List (List UInt8)) : (lineWs l).length ≤ l.length := by
  unfold lineWs
  cases l with
  | nil => exact Nat.le_refl _
  | cons h t =>
    dsimp only
    split
    · exact Nat.zero_le _
    · rename_i k x hc
      unfold classD at hc
      split at hc
      · cases hc
      · rw [Option.map_eq_some_iff] at hc
        obtain ⟨y, hy, e⟩ := hc
        injection e with _ e
        subst e
        rw [fam_iff] at hy
        split at hy
        · injection hy with hy; subst hy; simp
        · cases hy
      · split at hc
        · injection hc with hc; injection hc with _ hc; subst hc; simp
        · cases hc

set_option maxHeartbeats 3200000 in
theorem lines_core (w : World) (A : Option Addr) (c : Nat) (l : List (List UInt8)) (K : ByteArray) (L : List (List UInt8)) (N : Nat) (hN : L.length = N) (hNl : N ≤ 8796093022207) (E : Int) (hE : E = 0 ∨ E = 50) (hm : l.length ≤ 8796093022207)
    (H : Hid (∀ W, Below w.heap.size w W → Words W A c l))
    (HK : Hid (∀ W, Below w.heap.size w W → Calls Tryz.prog 12 #[] W fun e w' => e = .returned (.bool true) ∧ Below W.heap.size W w'))
    (HP : Hid (∀ W, Below w.heap.size w W → Calls Tryz.prog 21 #[.slice A l.length c] W fun e w' => Below W.heap.size W w' ∧ ∃ A c, e = .returned (.tuple #[.string K, .slice A N c, .int .i64 E]) ∧ Words w' A c L))
    (HR : Hid (∀ W, Below w.heap.size w W → Calls Tryz.prog 22 #[.slice A l.length c] W fun e w' => Below W.heap.size W w' ∧ ∃ A c, e = .returned (.tuple #[.string K, .slice A N c, .int .i64 E]) ∧ Words w' A c L)) :
    Calls Tryz.prog 6 #[.slice A l.length c] w fun e w' => e = .returned (.bool true) ∧ Below w.heap.size w w' := by
  go_enter Tryz.func6, Tryz.ntmps6
  go_wp2_with fail
  go_loopw [3, 4] (fun nn i wr => ∃ (k : Nat) (v : Int), k ≤ l.length ∧ i = .int .i64 k ∧ nn = .int .i64 v ∧ Hid (Below w.heap.size w wr)) (fun _ i _ => l.length - (intOf i).toNat)
  case atStart => exact ⟨0, 0, Nat.zero_le _, rfl, rfl, Lib.hid (Below.refl _ _)⟩
  case round =>
    obtain ⟨k, v, hk, rfl, rfl, HB⟩ := hrel
    by_cases hlt : k < l.length
    · obtain ⟨b, off, s, eA, hx, hc0⟩ := (H.out _ HB.out).at_ hlt
      obtain ⟨v1, hv1⟩ : ∃ v1, IntKind.i64.wrap (v + 1) = v1 := ⟨_, rfl⟩
      obtain ⟨v2, hv2⟩ : ∃ v2, IntKind.i64.wrap (v1 + ((sb s).size : Int)) = v2 := ⟨_, rfl⟩
      have hlb := World.block_lt_of_cell? wr _ hc0
      clear hx
      subst eA
      go_wp2
      go_roundw
      case rel => exact ⟨k + 1, v2, by omega, by go_num, rfl, HB⟩
      case measure => simp [intOf]; omega
    · obtain rfl : k = l.length := by omega
      by_cases hv : 500 < v
      · go_wp2_with fail
        refine (HK.out _ HB.out).mono ?_
        rintro e w2 ⟨rfl, hb2⟩
        go_wp2
        go_ret
        exact ⟨rfl, blw HB.out hb2⟩
      · have g0 : (K.toList == K.toList) = true := by simp
        have g1 : (E == E) = true := by simp
        have hE1 : IntKind.i64.wrap E = E := by rcases hE with rfl | rfl <;> rfl
        clear hE
        go_wp2_with fail
        refine (HP.out _ HB.out).mono ?_
        rintro e w1 ⟨hb1, A1, c1, rfl, hW1⟩
        have HB1 := Lib.hid (blw HB.out hb1)
        have HW1 := Lib.hid hW1
        clear hb1 hW1
        go_wp2_with fail
        refine (HR.out _ HB1.out).mono ?_
        rintro e w2 ⟨hb2, A2, c2, rfl, hW2⟩
        have HB2 := Lib.hid (blw HB1.out hb2)
        have HW1' := Lib.hid (HW1.out.below hb2)
        have HW2 := Lib.hid hW2
        clear hb2 hW2 HW1
        have hs := Txt.sameAll_any A1 A2 c1 c2 (L.map sb) (L.map sb) w2 HW1'.out.zs HW2.out.zs (by rw [List.length_map, hN]; omega) (by rw [List.length_map, hN]; omega)
        rw [List.length_map, hN, decide_eq_true rfl] at hs
        have HS := Lib.hid hs
        clear hs
        go_wp2_with fail
        refine HS.out.mono ?_
        rintro e w3 ⟨rfl, hb3⟩
        have HB3 := Lib.hid (blw HB2.out hb3)
        clear hb3
        go_wp2_with fail
        refine (HK.out _ HB3.out).mono ?_
        rintro e w4 ⟨rfl, hb4⟩
        go_wp2
        go_ret
        exact ⟨rfl, blw HB3.out hb4⟩
theorem walk_FlowLines (w : World) (hT : Tb3 w) (A : Option Addr) (c : Nat) (l : List (List UInt8)) (h : Words w A c l) (hm : l.length ≤ 8796093022207) (hs : ∀ s ∈ l, s.length ≤ reachN) :
    Calls Tryz.prog 6 #[.slice A l.length c] w fun e w' => e = .returned (.bool true) ∧ Below w.heap.size w w' := by
  have hsh : Short l := fun s m => Nat.le_trans (hs s m) (by decide)
  refine lines_core w A c l (sb (lineKw l)) (lineWs l) _ rfl (Nat.le_trans (lineWs_len l) hm) (lineE l) ?_ hm (Lib.hid fun W hW => h.below hW) (Lib.hid fun W hW => known_any W (hT.below hW))
    (Lib.hid fun W hW => line_any l _ rfl W A c (h.below hW) hsh hm (hT.below hW).st) (Lib.hid fun W hW => rline_any l _ rfl W A c (h.below hW) hsh hm)
  unfold lineE
  cases l with
  | nil => exact Or.inl rfl
  | cons x t =>
    dsimp only
    split
    · exact Or.inr rfl
    · exact Or.inl rfl

namespace flowLines
theorem own : ownKnob Tryz.prog.godebug = none := by kernel_rfl
theorem laidOut : laidOutB Tryz.prog = true := by kernel_rfl
set_option maxRecDepth 100000 in
theorem lifted (os : Os) (started : os.Started) (H : Type) (enc : TypeId × Value → H) :
    ReturnsInHanded {} Tryz.checked os 6 .any (fun w args => (Rows.flowLinesSpec.pre enc Tryz.prog Tryz.f6 [] false w args ∧ laidMetH Tryz.prog laid7 w) ∧ sizedMet enc Tryz.prog Tryz.f6 (OpenSpec.ofChange Rows.flowLinesSpec) false w args)
      (Rows.flowLinesSpec.post enc Tryz.prog Tryz.f6 false true false false) := by
  refine returnsInHanded_of_change_and (C := Tryz.checked) (X := fun w _ => laidMetH Tryz.prog laid7 w) (fun _ _ _ hh h => h.of_heap hh) own started (by kernel_rfl) Tryz.func6
    (ChangeSpec.witness_shaped (enc := enc) (C := Tryz.checked) (os := os) (X := fun w _ => laidMetH Tryz.prog laid7 w) false (World.laidAll Tryz.prog os laid7) #[.slice none 0 0] 8 (World.laidAll_os _ _ _)
      (World.shaped_of_ZipB (by kernel_rfl) (by kernel_rfl)) (by kernel_rfl) (by kernel_rfl) (by kernel_rfl)
      (by rw [MakeChecks.laidMetH_plain _ _ _ (by kernel_rfl)]; exact laidMet_laidAll _ (by kernel_rfl) (by kernel_rfl))) ?_
  intro W base args ds gs before hval0 hW _ hsz hL _
  have hval : ∀ (j : Nat) t v, Tryz.f6.params[j]? = some t → args[j]? = some v → Value.okWide Tryz.prog W .any base t v := hval0
  have hW' := hW
  obtain ⟨p, q, hA0, hV, rfl, _, _⟩ := hW
  have hA : DataW.TrodAll enc Tryz.prog W 0 (fun _ => true) true Tryz.f6.params.toList args.toList ds p := hA0
  rw [Tryz.params6] at hA hval
  obtain ⟨v0, vs0, d0, ds0, p0, q0, hargs, rfl, rfl, h0, r0⟩ := trodAll_cons hA
  obtain ⟨rfl, rfl, rfl⟩ := trodAll_nil r0
  obtain rfl : args = #[v0] := by cases args; simp_all
  obtain ⟨rfl, rfl⟩ := trodVars_none hV
  have k0 := h0
  have lt0 : ∀ x ∈ p0, x.block < W.heap.size := by obtain ⟨m, hm⟩ := k0; exact DataW.trod_lt m _ _ _ hm
  obtain ⟨a0, len0, b0, rfl⟩ := okWide_slice Tryz.underlying41 (hval 0 41 v0 rfl rfl)
  obtain ⟨fuel0, hf0⟩ := h0
  obtain ⟨A0, c0, z0, e0, w0, s0⟩ := words_arg hf0
  injection e0 with e0a e0b e0c
  subst e0a e0b e0c
  have s0 := s0 (weights_at hsz (j := 0) (t := 41) rfl rfl)
  clear hf0
  clear hA0 hval0
  rw [MakeChecks.laidMetH_plain _ _ _ (by kernel_rfl)] at hL
  refine (walk_FlowLines W (tabs_of hL) a0 b0 z0 w0 s0.1 s0.2).mono fun e W' ⟨he, bel⟩ => ?_
  subst he
  exact ⟨_, rfl, _, _, _, [], _, [], hW', trodAll_mk1 (shut_bool Tryz.underlying4 _), (trodAll_cons_mk (Below.trod laidOut (by kernel_rfl) (of_decide_eq_true (by kernel_rfl)) k0 bel lt0) trodAll_mk0), rfl, bel.frame _, fun h => by cases h⟩
theorem said : Rows.FlowLinesSaid :=
  OpenClaim.holds_of_wide 6 Tryz.f6 rfl rfl rfl rfl rfl rfl rfl ⟨rfl, rfl, rfl, rfl, rfl⟩ rfl rfl rfl rfl rfl (by kernel_rfl) Tryz.func6 (by kernel_rfl)
    (of_decide_eq_true (by kernel_rfl)) (by unfold Func.isWrapper; first | (rw [if_pos (by decide +kernel)]; kernel_rfl) | (rw [if_neg (by decide +kernel)]; exact ⟨rfl, rfl⟩))
    (fun os started H enc _ => lifted os started H enc)
theorem plain (f : FuncId) (fn : Func) (hf : Tryz.pinned.checked.prog.funcNamed "timekeeper/timekeeperlaw06.FlowLines" = some f) (hfn : Tryz.pinned.checked.prog.funcs[f]? = some fn) :
    false = Tryz.pinned.checked.prog.looks [] ∧ ∀ (j : Nat) t, fn.params[j]? = some t → Tryz.pinned.checked.prog.wantsStandIn t = false := by
  obtain rfl : f = 6 := Option.some.inj ((show Tryz.prog.funcNamed "timekeeper/timekeeperlaw06.FlowLines" = some 6 by kernel_rfl).symm.trans hf) |>.symm
  obtain rfl : fn = Tryz.f6 := (Option.some.inj (Tryz.func6.symm.trans hfn)).symm
  refine ⟨by kernel_rfl, fun j t ht => ?_⟩
  rw [Tryz.params6] at ht
  have hm : t ∈ [41] := by simpa using Array.mem_of_getElem? ht
  have hall : ([41].all fun u => !Tryz.prog.wantsStandIn u) = true := by kernel_rfl
  exact (show Tryz.prog.wantsStandIn t = false by simpa using List.all_eq_true.1 hall t hm)
theorem proved : Rows.FlowLinesCardSaid :=
  Claim7.holds_tied_plain_at .later [] _ _ _ _ said (fun _ h => by cases h) (by kernel_rfl) (fun _ h => by cases h) flowLines_row_tie rfl ⟨rfl, rfl⟩ (by kernel_rfl) rfl plain (by kernel_rfl)
#print axioms proved
end flowLines
end Go.Proofs.YtdcfakbelnpljaaGreatDoor
