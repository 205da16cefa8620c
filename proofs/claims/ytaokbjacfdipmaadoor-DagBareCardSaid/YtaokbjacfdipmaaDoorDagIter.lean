/- A word's trailing zeros; the numbers of a set, one by one: what it asks of a round, what it gives. -/
import Derived.Test.YtaokbjacfdipmaaDoorDagBits
import Derived.Test.YtaokbjacfdipmaaDoorDagSet
import Derived.RangeFuncNested
import Derived.RangeFuncBound
import Derived.RangeFuncCalls
import Derived.RangeFuncLeaves
import Derived.Shelf.Abstract
import Derived.OwnWalkIn
import Derived.TacticsInMore
import Derived.LoopNIn
import Derived.LoopIn
namespace Go.Proofs.YtaokbjacfdipmaaDoor
open Go.RowKit Go.Shelf
set_option linter.unusedVariables false
attribute [local go_sem] Oper.semAt_some

theorem wide_call {P : Program} {n : Nat} {f : FuncId} {args : Array Value} {w : World} {R R' : Ending → World → Prop} (h : Calls P f args w R) (hm : ∀ e w', R e w' → R' e w') :
    Fence.wide.fn f ∧ (Fence.wide.depth.isSome = true → 1 ≤ n) ∧ CallsIn Fence.wide (n - 1) P f args w R' := ⟨trivial, (fun h => by cases h), (callsIn_wide.2 h).mono hm⟩
theorem wide_call_in {P : Program} {n l : Nat} {f : FuncId} {args : Array Value} {w : World} {R R' : Ending → World → Prop} (h : Calls P f args w R) (hm : ∀ e w', R e w' → R' e w') :
    (Fence.wide.inRound l).fn f ∧ ((Fence.wide.inRound l).depth.isSome = true → 1 ≤ n) ∧ CallsIn (Fence.wide.inRound l) (n - 1) P f args w R' := ⟨trivial, (fun h => by cases h), CallsIn.inRound l ((callsIn_wide.2 h).mono hm)⟩

/-- the library's table of 64 numbers -/
def Tab (w : World) : Prop := TabAt 0 Lib.deBruijn64tab w
theorem Tab.block {w w' : World} (h : Tab w) (hk : w'.heap[0]? = w.heap[0]?) : Tab w' := by
  intro j hj
  rw [World.cell?_of_block (w := w) (a := ⟨0, j, none⟩) hk]
  exact h j hj
theorem Tab.lt {w : World} (h : Tab w) : 0 < w.heap.size := World.block_lt_of_cell? w _ (h 0 (by decide))
theorem Tab.below {w w' : World} {base : Nat} (h : Tab w) (hb : Below base w w') (hbase : 0 < base) : Tab w' := h.block (hb.block _ hbase)

set_option maxHeartbeats 800000 in
theorem tz_core (x k idx : Nat) (w : World) (hx0 : ((x : Int) == 0) = false)
    (key : IntKind.u64.wrap (bits BinOp.and IntKind.u64 (x : Int) (IntKind.u64.wrap (-(x : Int))) * 285870213051353865) / 288230376151711744 = (idx : Int))
    (hi : idx < 64) (hk : k < 64) (hcell : w.cell? ⟨0, idx, none⟩ = some (.int .u8 k)) :
    Calls Tryd.prog 50 #[.int .u64 x] w fun e w' => e = .returned (.int .i64 k) ∧ w = w' := by
  go_enter Tryd.func50, Tryd.ntmps50
  go_wp2_with (simp only [key])
  go_ret
  exact ⟨rfl, rfl⟩
theorem tz_any (x : Nat) (w : World) (hx : x < 18446744073709551616) (h0 : x ≠ 0) (hT : Tab w) :
    Calls Tryd.prog 50 #[.int .u64 x] w fun e w' => e = .returned (.int .i64 (Lib.ctz 64 x : Int)) ∧ w = w' := by
  obtain ⟨hlow, hk⟩ := Lib.lowest_bit 64 x h0 hx
  obtain ⟨hi, htab⟩ := Lib.deBruijn64_at _ hk
  have hcell := hT _ hi
  rw [htab] at hcell
  exact tz_core x _ _ w (by simp; omega) (tz64_key x _ hx h0 hlow) hi hk hcell

/-- one round more of the numbers of a word -/
def Rounds (n : Nat) (l : Nat) (wd : Nat) (N : Nat) (J Jx : List Nat → World → Prop) : Prop :=
  ∀ (pre : List Nat) (x : Nat) (W : World), J pre W → (∃ post, bitsL N wd = pre ++ x :: post) → YieldAt Fence.wide n Tryd.prog l #[.int .i64 (x : Int)] W fun e W' =>
    (e = .returned (.bool true) ∧ J (pre ++ [x]) W') ∨ (e = .returned (.bool false) ∧ Jx (pre ++ [x]) W')

set_option maxRecDepth 100000 in
set_option maxHeartbeats 1600000 in
theorem all_in (n l N : Nat) (v : Value) (base wd : Nat) (J Jx : List Nat → World → Prop) (W : World) (hN : N ≤ 30) (hT : ∀ pre W, J pre W → Tab W)
    (hY : Rounds (n - 1) l wd N J Jx) (hs : SetAt W base N v wd) (h0 : J [] W) :
    CallsIn Fence.wide n Tryd.prog 45 #[v, .func (.yield l) #[] #[]] W fun e W' => (∃ v, e = .returned v) ∧ (J (bitsL N wd) W' ∨ ∃ pre, Jx pre W') := by
  obtain ⟨⟨g, rfl, hb, hw⟩, hlt⟩ := hs
  by_cases hN0 : N = 0
  · subst hN0
    refine callsIn_of_wp Tryd.func45 rfl trivial ?_ rfl
    simp only [Tryd.ntmps45, List.size_toArray, List.length_cons, List.length_nil, Nat.reduceAdd, Nat.reduceSub, Array.replicate_succ, Array.replicate_zero, List.push_toArray, List.append_toArray, List.nil_append, List.cons_append]
    gi_wp2
    gi_loopw [8] (fun i wr => i = .int .i64 0 ∧ wr = W) (fun i _ => 0)
    case atStart => exact ⟨rfl, rfl⟩
    case round =>
      obtain ⟨rfl, rfl⟩ := hrel
      gi_wp2
      go_end0
      exact ⟨⟨_, rfl⟩, Or.inl (by simpa [bitsL] using h0)⟩
  · rw [if_neg hN0]
    have hc := (hw hN0).cell
    have hf := (hw hN0).frozen
    have HT := Lib.hid hT; clear hT
    have HY := Lib.hid hY; clear hY
    have H0 := Lib.hid h0; clear h0
    have hlt64 : 2 ^ N ≤ 1073741824 := Nat.pow_le_pow_right (n := 2) (by decide) hN
    have HLT64 := Lib.hid hlt64; clear hlt64 hw
    refine callsIn_of_wp Tryd.func45 rfl trivial ?_ rfl
    simp only [Tryd.ntmps45, List.size_toArray, List.length_cons, List.length_nil, Nat.reduceAdd, Nat.reduceSub, Array.replicate_succ, Array.replicate_zero, List.push_toArray, List.append_toArray, List.nil_append, List.cons_append]
    gi_wp2
    gi_loopw [8] (fun i wr => (i = .int .i64 0 ∧ wr = W) ∨ (i = .int .i64 1 ∧ Hid (J (bitsL N wd) wr))) (fun i _ => 2 - (intOf i).toNat)
    case atStart => exact Or.inl ⟨rfl, rfl⟩
    case round =>
      rcases hrel with ⟨rfl, rfl⟩ | ⟨rfl, hJ⟩
      · gi_wp2
        gi_loopw [5] (fun u wq => ∃ (wd' : Nat) (pre : List Nat), u = .int .u64 (wd' : Int) ∧ Hid (bitsL N wd = pre ++ bitsL N wd') ∧ Hid (wd' < 2 ^ N) ∧ Hid (J pre wq)) (fun u _ => (intOf u).toNat)
        case atStart => exact ⟨wd, [], rfl, Lib.hid rfl, Lib.hid hlt, H0⟩
        case round =>
          obtain ⟨wd', pre, rfl, hpre, hlt', hJ⟩ := hrel
          by_cases hz : wd' = 0
          · subst hz
            gi_wp2
            go_roundw
            case rel => exact Or.inr ⟨rfl, Lib.hid (by rw [hpre.out, bitsL_zero, List.append_nil]; exact hJ.out)⟩
            case measure => simp [intOf]
          · obtain ⟨hst, hcl, hdec⟩ := bitsL_step hz hlt'.out (by omega)
            have hb1 : wd' < 1073741824 := Nat.lt_of_lt_of_le hlt'.out HLT64.out
            obtain ⟨c, hcc⟩ : ∃ c, Lib.ctz 64 wd' = c := ⟨_, rfl⟩
            have ct := fun (w : World) (hT : Tab w) => tz_any wd' w (by omega) hz hT
            rw [hcc] at hst hcl ct
            have hsub : bits .and .u64 (wd' : Int) ((wd' : Int) - 1) = ((wd' &&& (wd' - 1) : Nat) : Int) := by
              rw [show (wd' : Int) - 1 = ((wd' - 1 : Nat) : Int) from by omega]
              exact bits_and_u64_nat _ _ (by omega) (by omega)
            obtain ⟨q, hq⟩ : ∃ q, wd' &&& (wd' - 1) = q := ⟨_, rfl⟩
            rw [hq] at hst hsub hdec
            have hz1 : (1 : Int) ≤ (wd' : Int) := by omega
            have hzb : ((wd' : Int) == 0) = false := by rw [beq_eq_false_iff_ne]; omega
            have hc30 : (c : Int) < 30 := by omega
            obtain ⟨fn, tmps, assign, body, hy, hR⟩ := HY.out pre c wr hJ.out ⟨_, by rw [hpre.out, hst]⟩
            have HST := Lib.hid hst
            have HSUB := Lib.hid hsub
            have HQ := Lib.hid hq
            have CT := Lib.hid ct
            clear hst hsub hq ct hcc
            gi_wp2_with fail
            refine wide_call (CT.out _ (HT.out _ _ hJ.out)) ?_
            rintro e w' ⟨rfl, rfl⟩
            gi_wp2
            refine ⟨(fun h => by cases h), hR.mono ?_⟩
            rintro e W3 (⟨rfl, hJ3⟩ | ⟨rfl, hJx3⟩)
            · gi_wp2
              go_roundw
              case rel => exact ⟨q, pre ++ [c], by rw [HSUB.out], Lib.hid (by rw [hpre.out, HST.out, List.append_assoc]; rfl), Lib.hid (by have := hlt'.out; omega), Lib.hid hJ3⟩
              case measure => rw [HSUB.out]; simp [intOf]; omega
            · gi_wp2
              refine bodyPost_ret (results_none rfl _ _ _) rfl ?_
              exact ⟨⟨_, rfl⟩, Or.inr ⟨_, hJx3⟩⟩
      · gi_wp2
        go_end0
        exact ⟨⟨_, rfl⟩, Or.inl hJ.out⟩

end Go.Proofs.YtaokbjacfdipmaaDoor
