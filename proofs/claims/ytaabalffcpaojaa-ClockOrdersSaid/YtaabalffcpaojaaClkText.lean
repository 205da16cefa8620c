/- clock.Text, and the document's own Text. -/
import Derived.Test.YtaabalffcpaojaaClkRead
import Derived.Deep.OwnRows
import Derived.Laws.BytesArg
import Derived.OwnWalk
namespace Go.Proofs.Ytaabalffcpaojaa
open Go.RowKit
set_option linter.unusedVariables false

def textL (t : Int) : List UInt8 := if isT t = true then txt t.toNat else []
theorem textL_no {t : Int} (h : isT t = false) : textL t = [] := by simp [textL, h]
theorem textL_yes {t : Int} (h : isT t = true) : textL t = txt t.toNat := by simp [textL, h]

theorem info_u8 : (Try.prog.info? 5).map (fun i => (i.zero, i.size, i.bytes)) = some (some (.int .u8 0), 1, 1) := by kernel_rfl

/-- block g is just these bytes -/
def Row8 (w : World) (g : Nat) (l : List Int) : Prop := w.heap[g]? = some (.cells (l.map (Value.int .u8)).toArray 5 (0, 0))
theorem Row8.cell {w : World} {g : Nat} {l : List Int} (h : Row8 w g l) {i : Nat} {x : Int} (hx : l[i]? = some x) : w.cell? ⟨g, i, none⟩ = some (.int .u8 x) := by
  rw [cell_of_row w g i _ _ (0, 0) h]; simp [hx]
theorem Row8.frozen {w : World} {g : Nat} {l : List Int} (h : Row8 w g l) (i : Nat) : w.frozen? ⟨g, i, none⟩ = false := by
  unfold Row8 at h; simp [World.frozen?, h]
theorem Row8.store {w : World} {g : Nat} {l : List Int} (h : Row8 w g l) (i : Nat) (x : Int) : Row8 (w.setCell ⟨g, i, none⟩ (.int .u8 x)) g (l.set i x) := by
  unfold Row8 at h ⊢
  simp [World.setCell, Array.getElem?_modify, h, List.map_set]

theorem Row8.made (w : World) (n : Nat) : Row8 (w.alloc (.cells (madeCells #[.int .u8 0] n) 5)) w.heap.size (List.replicate n 0) := by
  have e : madeCells #[.int .u8 0] n = ((List.replicate n (0 : Int)).map (Value.int .u8)).toArray := by
    apply Array.ext'
    rw [toList_madeCells_one]; simp
  unfold Row8
  rw [heap_alloc_new, e]
theorem Row8.string {w : World} {g n : Nat} {l : List Int} (h : Row8 w g l) (hl : l.length = n) {m : Nat} (he : l = (txt m).map fun c => (c.toNat : Int)) :
    (convert 46 9 (.slice (some ⟨g, 0, none⟩) n n)).run Try.prog w = .ok (.string ⟨(txt m).toArray⟩) w := by
  have := run_convert_bytes_arg (P := Try.prog) w 46 5 Try.underlying46 Try.underlying5 g 0 n n l hl (fun i hi => by
    have hx : l[i]? = some (l.getD i 0) := by rw [List.getD_eq_getElem?_getD, List.getElem?_eq_getElem (by omega)]; rfl
    rw [Nat.zero_add]
    exact h.cell hx) 9 Try.underlying9
  rw [this, he, strOfNums, List.map_map]
  congr 4
  conv => rhs; rw [← List.map_id (txt m)]
  apply List.map_congr_left
  intro c _
  simp
theorem filled_start (m n : Nat) : Filled m n 0 (List.replicate n 0) := ⟨by simp, fun j hj => absurd hj (by omega)⟩

set_option maxHeartbeats 800000 in
theorem text_any (t : Int) (w : World) :
    Calls Try.prog 24 #[.int .i64 t] w fun e w' => e = .returned (.string ⟨(textL t).toArray⟩) ∧ Below w.heap.size w w' := by
  cases h1 : isT t
  · rw [textL_no h1]
    go_enter Try.func24, Try.ntmps24
    go_wp2_with (go_at_call 20; refine (is_any _ _).mono ?_; rintro e w' ⟨rfl, rfl⟩)
    go_ret
    exact ⟨rfl, Below.refl _ _⟩
  · rw [textL_yes h1]
    have bt := isT_bd h1
    obtain ⟨m, rfl⟩ := Int.eq_ofNat_of_zero_le bt.1
    rw [Int.toNat_natCast]
    have hm : m ≤ 1099511627775 := by omega
    have hl1 := txt_bound hm
    have hl0 := rtx_pos m
    rw [← txt_len] at hl0
    clear bt
    obtain ⟨n, hn⟩ : ∃ n, n = (txt m).length := ⟨_, rfl⟩
    have HN := Lib.hid hn
    have hmk := fun W => run_make_row' (P := Try.prog) 46 5 (.int .u8 0) 1 Try.underlying46 info_u8 rfl .i64 .i64 n (by omega) (by omega) W
    rw [← hn] at hl0 hl1
    clear hn
    go_enter Try.func24, Try.ntmps24
    go_wp2_with (first | (go_at_call 20; refine (is_any _ _).mono ?_; rintro e w' ⟨rfl, rfl⟩) | (go_at_call 29; refine (width_any _ _ hm).mono ?_; rintro e w' ⟨rfl, rfl⟩; rw [← HN.out]))
    go_loopw [0, 14] (fun t i wr => ∃ (k q : Nat) (l : List Int), k ≤ n ∧ i = .int .i64 (k : Int) ∧ t = .int .i64 (q : Int) ∧ q ≤ 1099511627775 ∧ Below w.heap.size w wr ∧ Row8 wr w.heap.size l ∧ Filled m n k l ∧ Hid (q = m / 10 ^ k)) (fun _ i _ => n - (intOf i).toNat)
    case atStart => exact ⟨0, m, _, by omega, rfl, rfl, hm, (Below.refl _ _).alloc (Nat.le_refl _) _, Row8.made _ _, filled_start m n, Lib.hid (by simp)⟩
    case round =>
      obtain ⟨k, q, l, hk, rfl, rfl, hq, hb, hrow, hfill, hqe⟩ := hrel
      by_cases hlt : k < n
      · obtain ⟨x, hx⟩ : ∃ x, l[n - 1 - k]? = some x := ⟨_, List.getElem?_eq_getElem (by rw [hfill.1]; omega)⟩
        have hcell := hrow.cell hx
        have hfr := hrow.frozen (n - 1 - k)
        clear hx
        have hval : Hid ((48 : Int) + (q : Int) % 10 = ((dig (m / 10 ^ k)).toNat : Int)) := Lib.hid (by rw [dig_toNat, ← hqe.out]; omega)
        have hdiv : Hid (q / 10 = m / 10 ^ (k + 1)) := Lib.hid (by rw [hqe.out, Nat.div_div_eq_div_mul, Nat.pow_succ])
        have hnext := hfill.next hlt
        rw [← hval.out] at hnext
        go_wp2
        go_roundw
        case rel => exact ⟨k + 1, q / 10, _, by omega, by go_num, by go_num, by omega, hb.setCell (Nat.le_refl _) _, hrow.store _ _, hnext, hdiv⟩
        case measure => simp [intOf]; omega
      · obtain rfl : k = n := by omega
        have hwhole : l = (txt m).map fun c => (c.toNat : Int) := by
          have h := hfill
          rw [HN.out] at h
          exact h.whole
        have hcv := hrow.string hfill.1 hwhole
        clear hwhole
        go_wp2
        go_ret
        exact ⟨rfl, hb⟩

end Go.Proofs.Ytaabalffcpaojaa
