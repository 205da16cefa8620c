/- Of the document's: SameLists, Before, Behind; and long. -/
import Derived.Test.YtaokbjacfdipmaaDoorDagRef
namespace Go.Proofs.YtaokbjacfdipmaaDoor
open Go.RowKit
set_option linter.unusedVariables false

set_option maxHeartbeats 1600000 in
theorem sameL_any (ls : List (List Int)) (n m : Nat) (hn : ls.length = n) (hm : ls.length = m) (w : World) (A B : Option Addr) (c d : Nat) (h1 : IRows w A c ls) (h2 : IRows w B d ls) :
    Calls Tryd.prog 21 #[.slice A n c, .slice B m d] w (RetTrue w) := by
  subst hn hm
  have hlm : ls.length ≤ 9223372036854775807 := Nat.le_trans h1.cap (by have := h1.top; simpa [maxLen] using this)
  have H1 := Lib.hid h1; have H2 := Lib.hid h2
  clear h1 h2
  go_enter Tryd.func21, Tryd.ntmps21
  go_wp2
  go_loopw [5] (fun i wr => ∃ k : Nat, k ≤ ls.length ∧ i = .int .i64 k ∧ Hid (Below w.heap.size w wr)) (fun i _ => ls.length - (intOf i).toNat)
  case atStart => exact ⟨0, Nat.zero_le _, rfl, Lib.hid (Below.refl _ _)⟩
  case round =>
    obtain ⟨k, hk, rfl, HB⟩ := hrel
    by_cases hlt : k < ls.length
    · obtain ⟨b, off, Ax, cx, xs, rfl, hx, hc0, hix⟩ := H1.out.at_ hlt
      have hc := (HB.out.cell (p := ⟨b, off + k, none⟩) (World.block_lt_of_cell? w _ hc0)).trans hc0
      obtain ⟨b', off', Ay, cy, ys, rfl, hy, hd0, hiy⟩ := H2.out.at_ hlt
      have hd := (HB.out.cell (p := ⟨b', off' + k, none⟩) (World.block_lt_of_cell? w _ hd0)).trans hd0
      have hxy : ys = xs := by rw [hx] at hy; injection hy with hy; exact hy.symm
      subst hxy
      have hlx : ys.length ≤ 9223372036854775807 := Nat.le_trans hix.len (by have := Sl.top hix; simpa [maxLen] using this)
      have HX := Lib.hid hix; have HY := Lib.hid hiy
      have HC := Lib.hid hc0; have HD := Lib.hid hd0
      clear hx hy hc0 hd0 hix hiy
      go_wp2
      go_quiet (fail)
      go_wp2
      have HB' := Lib.hid (blw HB.out (below_drew wr nq))
      generalize wr.drewN nq = wz at HB' ⊢
      clear hc hd HB
      go_loopw [6] (fun i wr => ∃ j : Nat, j ≤ ys.length ∧ i = .int .i64 j ∧ Hid (Below w.heap.size w wr)) (fun i _ => ys.length - (intOf i).toNat)
      case atStart => exact ⟨0, Nat.zero_le _, rfl, HB'⟩
      case round =>
        clear HB'
        obtain ⟨j, hj, rfl, HB⟩ := hrel
        have hc := (HB.out.cell (p := ⟨b, off + k, none⟩) (World.block_lt_of_cell? w _ HC.out)).trans HC.out
        have hd := (HB.out.cell (p := ⟨b', off' + k, none⟩) (World.block_lt_of_cell? w _ HD.out)).trans HD.out
        by_cases hjl : j < ys.length
        · obtain ⟨bx, ox, x, rfl, hx, hcx0⟩ := HX.out.at_ hjl
          have hcx := (HB.out.cell (p := ⟨bx, ox + j, none⟩) (World.block_lt_of_cell? w _ hcx0)).trans hcx0
          obtain ⟨by', oy, y, rfl, hy, hcy0⟩ := HY.out.at_ hjl
          have hcy := (HB.out.cell (p := ⟨by', oy + j, none⟩) (World.block_lt_of_cell? w _ hcy0)).trans hcy0
          have hxy : y = x := by rw [hx] at hy; injection hy with hy; exact hy.symm
          subst hxy
          clear hx hy hcx0 hcy0
          go_wp2
          go_quiet (fail)
          go_wp2
          go_roundw
          case rel => exact ⟨j + 1, by omega, by go_num, Lib.hid (blw HB.out (below_drew wr nq))⟩
          case measure => simp [intOf]; omega
        · obtain rfl : j = ys.length := by omega
          go_wp2
          go_roundw
          case rel => exact ⟨k + 1, by omega, by go_num, HB⟩
          case measure => simp [intOf]; omega
    · obtain rfl : k = ls.length := by omega
      go_wp2
      go_ret
      exact ⟨rfl, HB.out⟩

/-- a list of numbers in order is grown by what comes -/
theorem filter_succ (p : Nat → Bool) (k : Nat) : num ((List.range (k + 1)).filter p) = num ((List.range k).filter p) ++ if p k then [(k : Int)] else [] := by
  rw [List.range_succ, List.filter_append, num_app]
  congr 1
  cases h : p k <;> simp [h, num]
theorem filter_len (p : Nat → Bool) (k : Nat) : (num ((List.range k).filter p)).length ≤ k := by
  rw [num_len]
  have := List.length_filter_le p (List.range k)
  simpa using this

set_option maxHeartbeats 1600000 in
theorem rbefore_any (E : List (List Int)) (w : World) (A : Option Addr) (c : Nat) (h : IRows w A c E) (hn : E.length ≤ 30) (v : Int) :
    Calls Tryd.prog 14 #[.slice A E.length c, .int .i64 v] w (RetL w (getL (fro E) v)) := by
  have H := Lib.hid h; clear h
  by_cases hv : 0 ≤ v ∧ v < (E.length : Int)
  · obtain ⟨n, rfl⟩ : ∃ n : Nat, v = (n : Int) := ⟨v.toNat, by omega⟩
    have hnl : n < E.length := by omega
    have HG : Hid (getL (fro E) (n : Int) = num (befL E n)) := Lib.hid (by unfold getL; rw [fro_len, if_pos (by omega), Int.toNat_natCast]; exact fro_row n hnl)
    obtain ⟨b, off, A', c', rfl, hc0, hi⟩ := H.out.cells n _ (row_get hnl)
    have HC := Lib.hid hc0; have HI := Lib.hid hi
    clear hv hc0 hi
    rw [HG.out]
    go_enter Tryd.func14, Tryd.ntmps14
    go_wp2
    go_loopw [5, 6] (fun o i wr => ∃ (k : Nat) (Ao : Option Addr) (co : Nat), k ≤ E.length ∧ i = .int .i64 k ∧ o = .slice Ao (num ((List.range k).filter fun u => arc E n u)).length co ∧ Hid (OwnI wr w.heap.size o (num ((List.range k).filter fun u => arc E n u))) ∧ Hid (Below w.heap.size w wr)) (fun _ i _ => E.length - (intOf i).toNat)
    case atStart => exact ⟨0, none, 0, Nat.zero_le _, rfl, rfl, Lib.hid (Own1.nil _ _ _), Lib.hid (Below.refl _ _)⟩
    case round =>
      obtain ⟨k, Ao, co, hk, rfl, rfl, HO, HB⟩ := hrel
      have hc := (HB.out.cell (p := ⟨b, off + n, none⟩) (World.block_lt_of_cell? w _ HC.out)).trans HC.out
      obtain ⟨L, hL⟩ : ∃ L, num ((List.range k).filter fun u => arc E n u) = L := ⟨_, rfl⟩
      have hLl : L.length ≤ 30 := by rw [← hL]; exact Nat.le_trans (filter_len _ k) (by omega)
      have hls := filter_succ (fun u => arc E n u) k
      rw [hL] at hls
      rw [hL] at HO
      have HL := Lib.hid hL
      have HLS := Lib.hid hls
      rw [hL]
      clear hL hls
      by_cases hkl : k < E.length
      · cases ha : arc E n k with
        | true =>
          have HA : Hid (decide ((k : Int) ∈ row E n) = true) := Lib.hid (by rw [← ha]; rfl)
          rw [ha] at HLS
          clear ha
          go_wp2_with fail
          refine (hasI_any (row E n) _ rfl (k : Int) _ _ _ (HI.out.below HB.out) true HA.out).mono ?_
          rintro e w1 ⟨rfl, rfl⟩
          go_wp2_with (at_builtin; refine wpList_appg rfl _ _ 30 3 (.int .i64 0) 8 Tryd.underlying30 info_int rfl (by decide) rfl w.heap.size (.slice Ao L.length co) (ints L) rfl (Own1.below HO.out ((Below.refl _ _).alloc (Nat.le_refl _) _)) (some ⟨wr.heap.size, 0, none⟩) 1 1 [.int .i64 (k : Int)] rfl rfl (Sl.one rfl) (by simp [Value.oneCell']) (by rw [ints_len]; simp; omega) (by have := HB.out.size; simp; omega) ?_; intro l A9 c9 w9 el ho9 _ _ hbl9; have HO9 := Lib.hid ho9; have HBL := Lib.hid ((HB.out.alloc HB.out.size _).trans hbl9); have EL := Lib.hid el; clear ho9 hbl9 el)
          go_roundw
          case rel =>
            have el : l = ints (L ++ [(k : Int)]) := by rw [EL.out, ints_app]; rfl
            have hl9 : l.length = (num ((List.range (k + 1)).filter fun u => arc E n u)).length := by rw [HLS.out, el, ints_len]; simp
            refine ⟨k + 1, A9, c9, by omega, by go_num, by rw [hl9], Lib.hid ?_, HBL⟩
            rw [HLS.out]
            simp only [if_true]
            have := HO9.out
            rw [el] at this ⊢
            exact this
          case measure => simp [intOf]; omega
        | false =>
          have HA : Hid (decide ((k : Int) ∈ row E n) = false) := Lib.hid (by rw [← ha]; rfl)
          rw [ha] at HLS
          clear ha
          go_wp2_with fail
          refine (hasI_any (row E n) _ rfl (k : Int) _ _ _ (HI.out.below HB.out) false HA.out).mono ?_
          rintro e w1 ⟨rfl, rfl⟩
          go_wp2
          go_roundw
          case rel =>
            have hl9 : num ((List.range (k + 1)).filter fun u => arc E n u) = L := by rw [HLS.out]; simp
            exact ⟨k + 1, Ao, co, by omega, by go_num, by rw [hl9], Lib.hid (by rw [hl9]; exact HO.out), HB⟩
          case measure => simp [intOf]; omega
      · obtain rfl : k = E.length := by omega
        go_wp2
        go_ret
        refine ⟨Ao, co, ?_, ?_, HB.out⟩
        · rw [← HL.out]; rfl
        · have := (OwnI.ints' HO.out).2
          rw [← HL.out] at this
          exact this
  · have HG : Hid (getL (fro E) v = []) := Lib.hid (by unfold getL; rw [fro_len, if_neg hv])
    rw [HG.out]
    by_cases h0 : v < 0
    · clear hv
      go_enter Tryd.func14, Tryd.ntmps14
      go_wp2
      go_loop [5, 6] (fun o i => o = .slice none 0 0 ∧ i = .int .i64 0) (fun _ _ => 0)
      case atStart => exact ⟨rfl, rfl⟩
      case round =>
        obtain ⟨rfl, rfl⟩ := hrel
        go_wp2
        all_goals (go_ret; exact retL_nil _)
    · have h1 : (E.length : Int) ≤ v := by omega
      have h2 : 0 ≤ v := by omega
      clear hv h0
      go_enter Tryd.func14, Tryd.ntmps14
      go_wp2
      go_loop [5, 6] (fun o i => o = .slice none 0 0 ∧ i = .int .i64 0) (fun _ _ => 0)
      case atStart => exact ⟨rfl, rfl⟩
      case round =>
        obtain ⟨rfl, rfl⟩ := hrel
        go_wp2
        all_goals (go_ret; exact retL_nil _)

end Go.Proofs.YtaokbjacfdipmaaDoor
