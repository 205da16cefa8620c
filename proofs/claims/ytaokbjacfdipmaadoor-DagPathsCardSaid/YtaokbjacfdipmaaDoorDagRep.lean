/- slices.Repeat of one number. -/
import Derived.Test.YtaokbjacfdipmaaDoorDagWay
import Derived.Test.YtaokbjacfdipmaaDoorDagKnown
import Derived.Laws.CopyOwn
namespace Go.Proofs.YtaokbjacfdipmaaDoor
open Go.RowKit
set_option linter.unusedVariables false

theorem mask_small (n : Nat) (h : n ≤ 30) : bits .and .u64 (n : Int) 4294967295 = (n : Int) := by
  have : ∀ m : Fin 31, bits .and .u64 ((m.val : Nat) : Int) 4294967295 = ((m.val : Nat) : Int) := by decide
  exact this ⟨n, by omega⟩
theorem mul64_any (n : Nat) (hn : n ≤ 30) (w : World) : Calls Tryd.prog 54 #[.int .u64 1, .int .u64 (n : Int)] w fun e w' => e = .returned (.tuple #[.int .u64 0, .int .u64 (n : Int)]) ∧ w = w' := by
  have h1 := mask_small n hn
  have h2 : bits .and .u64 1 4294967295 = 1 := by decide
  have h3 : (n : Int) / 4294967296 = 0 := by omega
  have h4 : bits .and .u64 0 4294967295 = 0 := by decide
  go_enter Tryd.func54, Tryd.ntmps54
  go_wp2
  go_ret2
  exact ⟨rfl, rfl⟩
theorem mul_any (n : Nat) (hn : n ≤ 30) (w : World) : Calls Tryd.prog 52 #[.int .u64 1, .int .u64 (n : Int)] w fun e w' => e = .returned (.tuple #[.int .u64 0, .int .u64 (n : Int)]) ∧ w = w' := by
  have M := mul64_any n hn
  go_enter Tryd.func52, Tryd.ntmps52
  go_wp2_with fail
  refine (M w).mono ?_
  rintro e w1 ⟨rfl, rfl⟩
  go_wp2
  go_ret2
  exact ⟨rfl, rfl⟩

/-- so many are laid, the rest is nought yet -/
def repL (n m : Nat) : List Value := List.replicate m (.int .i64 (-1)) ++ List.replicate (n - m) (.int .i64 0)
theorem repL_len {n m : Nat} (h : m ≤ n) : (repL n m).length = n := by simp [repL]; omega
theorem repL_zero (n : Nat) : repL n 0 = List.replicate n (.int .i64 0) := by simp [repL]
theorem repL_full (n : Nat) : repL n n = ints (List.replicate n (-1)) := by simp [repL, ints]
theorem repL_splice {n m k : Nat} (h : m + k ≤ n) : splice (repL n m) m (List.replicate k (.int .i64 (-1))) = repL n (m + k) := by
  unfold splice repL
  apply List.ext_getElem?
  intro i
  simp only [List.getElem?_append, List.getElem?_take, List.getElem?_drop, List.getElem?_replicate, List.length_append, List.length_take, List.length_replicate]
  repeat' split
  all_goals first | rfl | omega
theorem repL_get {n m j : Nat} (h : j < m) : (repL n m)[j]? = some (.int .i64 (-1)) := by
  unfold repL
  rw [List.getElem?_append_left (by simpa using h), List.getElem?_replicate, if_pos h]

set_option maxRecDepth 100000 in
set_option maxHeartbeats 1600000 in
theorem rep_any (n : Nat) (h1 : 1 ≤ n) (hn : n ≤ 30) (w : World) (A : Option Addr) (h : Ints w A 1 [-1]) :
    Calls Tryd.prog 49 #[.slice A 1 1, .int .i64 (n : Int)] w fun e w' => e = .returned (.slice (some ⟨w.heap.size, 0, none⟩) n n) ∧ OwnI w' w.heap.size (.slice (some ⟨w.heap.size, 0, none⟩) n n) (List.replicate n (-1)) ∧ Below w.heap.size w w' := by
  obtain ⟨i0, hi0, hz0, hz1, hz2⟩ := info_parts info_int
  have hsz : (Tryd.prog.info? 3).map (·.size) = some 1 := by rw [hi0]; simp [hz1]
  obtain ⟨b, off, x, rfl, hx, hc⟩ := h.at_ (k := 0) (by simp)
  have hx' : x = -1 := by simpa using hx.symm
  subst hx'
  have hmk := fun W : World => run_mk W 30 3 _ 8 Tryd.underlying30 info_int rfl (by decide) n (by omega) _ _ rfl rfl
  have M := Lib.hid (mul_any n hn)
  have HSZ := Lib.hid hsz
  clear hi0 hz0 hz1 hz2 h hx hsz
  go_enter Tryd.func49, Tryd.ntmps49
  go_wp2_with fail
  refine (M.out w).mono ?_
  rintro e w1 ⟨rfl, rfl⟩
  have hg0 : (w.alloc (.cells (Array.replicate n (.int .i64 0)) 3)).heap[w.heap.size]? = some (.cells (repL n 0).toArray 3 (0, 0)) := by
    rw [repL_zero]
    have := heap_alloc_new w (.cells (Array.replicate n (.int .i64 0)) 3)
    simpa using this
  have HG0 := Lib.hid hg0
  have HC : Hid ((w.alloc (.cells (Array.replicate n (.int .i64 0)) 3)).cell? ⟨b, off + 0, none⟩ = some (.int .i64 (-1))) := Lib.hid (((al w _).cell (p := ⟨b, off + 0, none⟩) (World.block_lt_of_cell? w _ hc)).trans hc)
  clear hg0 hc
  have hr := run_copy_row (P := Tryd.prog) (w.alloc (.cells (Array.replicate n (.int .i64 0)) 3)) 30 30 3 3 w.heap.size 0 n n ⟨b, off, none⟩ 1 1 (repL n 0).toArray 3 (List.replicate 1 (.int .i64 (-1))) Tryd.underlying30 HSZ.out HG0.out (by show 1 = min 1 n; omega) (fun j v hj => by
    have hj1 := (List.getElem?_eq_some_iff.1 hj).1
    have hj0 : j = 0 := by simpa using hj1
    subst hj0
    simp at hj
    subst hj
    exact HC.out) (by simp [repL_len (Nat.zero_le n)]; omega) (by simp [Value.oneCell'])
  have HR := Lib.hid hr
  have HG2 : Hid (((w.alloc (.cells (Array.replicate n (.int .i64 0)) 3)).setRow w.heap.size (((repL n 0).toArray).toList.take 0 ++ List.replicate 1 (Value.int .i64 (-1)) ++ ((repL n 0).toArray).toList.drop (0 + (List.replicate 1 (Value.int .i64 (-1))).length)).toArray).heap[w.heap.size]? = some (.cells (repL n 1).toArray 3 (0, 0))) := Lib.hid (by
    rw [setRow_heap _ _ _ _ _ _ HG0.out]
    congr 2
    have := repL_splice (n := n) (m := 0) (k := 1) (by omega)
    simpa [splice] using this)
  have HB2 : Hid (Below w.heap.size w ((w.alloc (.cells (Array.replicate n (.int .i64 0)) 3)).setRow w.heap.size (((repL n 0).toArray).toList.take 0 ++ List.replicate 1 (Value.int .i64 (-1)) ++ ((repL n 0).toArray).toList.drop (0 + (List.replicate 1 (Value.int .i64 (-1))).length)).toArray)) := Lib.hid (below_setRow (al _ _) (Nat.le_refl _) _)
  clear hr
  go_wp2_with fail
  rw [HR.out]
  generalize (w.alloc (.cells (Array.replicate n (.int .i64 0)) 3)).setRow w.heap.size (((repL n 0).toArray).toList.take 0 ++ List.replicate 1 (Value.int .i64 (-1)) ++ ((repL n 0).toArray).toList.drop (0 + (List.replicate 1 (Value.int .i64 (-1))).length)).toArray = w2 at HG2 HB2 ⊢
  clear HR HG0 HC hmk
  go_wp2_with fail
  generalize eb : w.heap.size = bl at HG2 ⊢
  have HBL := Lib.hid eb
  clear eb
  go_loopw [8] (fun i wr => ∃ m : Nat, 1 ≤ m ∧ m ≤ n ∧ i = .int .i64 m ∧ Hid (wr.heap[bl]? = some (.cells (repL n m).toArray 3 (0, 0))) ∧ Hid (Below w.heap.size w wr)) (fun i _ => n - (intOf i).toNat)
  case atStart => exact ⟨1, Nat.le_refl _, h1, rfl, HG2, HB2⟩
  case round =>
    clear HG2 HB2
    obtain ⟨m, hm1, hm, rfl, HG, HB⟩ := hrel
    by_cases hml : m < n
    · obtain ⟨k, hk⟩ : ∃ k, Nat.min m (n - m) = k := ⟨_, rfl⟩
      have hk1 : 1 ≤ k ∧ k ≤ m ∧ m + k ≤ n := by
        have : min m (n - m) = k := hk
        omega
      obtain ⟨hk1, hk2, hk3⟩ := hk1
      have HL : Hid ((List.replicate k (Value.int .i64 (-1))).length = Nat.min m (n - m)) := Lib.hid (by rw [hk]; simp)
      have HP : Hid (∀ (j : Nat) (v : Value), (List.replicate k (Value.int .i64 (-1)))[j]? = some v → wr.drew.cell? ((⟨bl, 0, none⟩ : Addr).add j) = some v) := Lib.hid (fun j v hj => by
        have hj1 : j < k := by simpa using (List.getElem?_eq_some_iff.1 hj).1
        rw [List.getElem?_replicate, if_pos hj1] at hj
        injection hj with hj
        subst hj
        have e : (⟨bl, 0, none⟩ : Addr).add j = ⟨bl, j, none⟩ := by unfold Addr.add; split <;> simp_all
        rw [e]
        have h2 := cell_of_row wr.drew bl j _ _ (0, 0) HG.out
        rw [h2, List.getElem?_toArray]
        exact repL_get (by omega))
      have HF : Hid (m + (List.replicate k (Value.int .i64 (-1))).length ≤ (repL n m).length) := Lib.hid (by rw [repL_len hm]; simpa using hk3)
      have HO : Hid (∀ v ∈ List.replicate k (Value.int .i64 (-1)), v.oneCell' = true) := Lib.hid (by intro v hv; rw [List.eq_of_mem_replicate hv]; rfl)
      have HS : Hid (splice (repL n m) m (List.replicate k (.int .i64 (-1))) = repL n (m + k)) := Lib.hid (repL_splice hk3)
      have HGD : Hid (wr.drew.heap[bl]? = some (.cells (repL n m).toArray 3 (0, 0))) := HG
      have HBD : Hid (Below w.heap.size w wr.drew) := Lib.hid (blw HB.out ⟨rfl, rfl, rfl, Nat.le_refl _, fun _ _ => rfl⟩)
      have hmm1 : (m : Int) ≤ (n : Int) := by omega
      have hne : ¬ n = m := by omega
      have hne0 : ¬ m = 0 := by omega
      have hw : IntKind.i64.wrap ((m : Int) + (k : Int)) = (m : Int) + (k : Int) := by rw [IntKind.wrap_i64]; omega
      clear hk HG HB
      go_wp2_with fail
      go_region_law (refine step_copy_splice rfl (.tmp 41) (.tmp 44) 30 30 rfl 3 Tryd.underlying30 HSZ.out (some ⟨bl, m, none⟩) (some ⟨bl, 0, none⟩) (n - m) (n - m) m n (by simp [Act.eval, Act.put]) (by simp [Act.eval, Act.put]) bl m (repL n m) 3 HGD.out (List.replicate k (.int .i64 (-1))) HL.out (fun _ => ⟨rfl, _, rfl, HP.out⟩) HF.out HO.out w.heap.size w HBD.out (by rw [HBL.out]; exact Nat.le_refl _) ?_; intro w4 hg4 hb4)
      all_goals
        have HG4 : Hid (w4.heap[bl]? = some (.cells (repL n (m + k)).toArray 3 (0, 0))) := Lib.hid (by have h := hg4.out; rw [HS.out] at h; exact h)
        have HB4 := Lib.hid hb4
        clear hg4 hb4
        simp [Act.put]
        go_wp2
        go_roundw
        case rel => exact ⟨m + k, by omega, hk3, by go_num, HG4, HB4⟩
        case measure => simp [intOf]; omega
    · obtain rfl : m = n := by omega
      go_wp2
      go_ret
      have HO := Own1.litm w w.heap.size 3 (Nat.le_refl _) (ints (List.replicate m (-1))) (n := m) (by simp [ints]) rfl (by simp only [maxLen]; omega)
      refine ⟨by rw [HBL.out]; rfl, HO.keep fun b e => ?_, HB.out⟩
      injection e with e
      subst e
      rw [heap_alloc_new, ← repL_full, HBL.out]
      exact HG.out

end Go.Proofs.YtaokbjacfdipmaaDoor
