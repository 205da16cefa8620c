/- Above, Below; and of the document's: Has, Before, Behind, SameInts, SameLists; long. -/
import Derived.Test.YtaokbjacfdipmaaDoorDagReach
import Derived.BigQuiet
namespace Go.Proofs.YtaokbjacfdipmaaDoor
open Go.RowKit
set_option linter.unusedVariables false

theorem fro_short {E : List (List Int)} (hn : E.length ≤ 30) : ∀ l ∈ fro E, l.length ≤ 1000 := by
  intro l hl
  obtain ⟨v, _, rfl⟩ := List.mem_map.1 hl
  rw [num_len]
  have := nodup_len (bef_nodup E v) fun u hu => (bef_mem.1 hu).1
  omega
theorem above_any (w : World) (E : List (List Int)) (p : Value) (h : Gr w E p) (hn : E.length ≤ 30) (l : List Int) (nl : Nat) (hel : l.length = nl) (Al : Option Addr) (cl : Nat) (hl : Ints w Al cl l) (hT : Tab w) :
    Calls Tryd.prog 17 #[p, .slice Al nl cl] w (RetP w E.length (FarP (fro E) l)) := by
  obtain ⟨g, A1, c1, A2, c2, A3, c3, rfl, hg, h1, h2, h3⟩ := h.ex
  have e0 := blk_cell hg 0
  simp only [show (#[Value.slice A1 E.length c1, Value.slice A2 E.length c2, Value.slice A3 E.length c3] : Array Value)[0]? = some (.slice A1 E.length c1) from rfl] at e0
  have H1 := Lib.hid h1; have HLI := Lib.hid hl; have HT := Lib.hid hT; have HEL := Lib.hid hel
  clear h hg h1 h2 h3 hl hT hel
  go_enter Tryd.func17, Tryd.ntmps17
  go_wp2_with fail
  refine (reached_any (fro E) l _ _ (fro_len E) HEL.out _ _ _ _ _ hn (fro_short hn) (valid_fro E) H1.out HLI.out HT.out).mono ?_
  rintro e w1 ⟨p, A, c, hp, rfl, hi, hb⟩
  have HP := Lib.hid hp; have HI := Lib.hid hi; have HB := Lib.hid hb
  clear hp hi hb
  go_wp2
  go_ret
  exact ⟨p, A, c, HP.out, rfl, HI.out, HB.out⟩
theorem below_any (w : World) (E : List (List Int)) (p : Value) (h : Gr w E p) (hn : E.length ≤ 30) (l : List Int) (nl : Nat) (hel : l.length = nl) (Al : Option Addr) (cl : Nat) (hl : Ints w Al cl l) (hT : Tab w) :
    Calls Tryd.prog 19 #[p, .slice Al nl cl] w (RetP w E.length (FarP (rev E) l)) := by
  obtain ⟨g, A1, c1, A2, c2, A3, c3, rfl, hg, h1, h2, h3⟩ := h.ex
  have e0 := blk_cell hg 1
  simp only [show (#[Value.slice A1 E.length c1, Value.slice A2 E.length c2, Value.slice A3 E.length c3] : Array Value)[1]? = some (.slice A2 E.length c2) from rfl] at e0
  have H1 := Lib.hid h2; have HLI := Lib.hid hl; have HT := Lib.hid hT; have HEL := Lib.hid hel
  clear h hg h1 h2 h3 hl hT hel
  go_enter Tryd.func19, Tryd.ntmps19
  go_wp2_with fail
  refine (reached_any (rev E) l _ _ (rev_len E) HEL.out _ _ _ _ _ hn (rev_rows_len hn) (valid_rev E) H1.out HLI.out HT.out).mono ?_
  rintro e w1 ⟨p, A, c, hp, rfl, hi, hb⟩
  have HP := Lib.hid hp; have HI := Lib.hid hi; have HB := Lib.hid hb
  clear hp hi hb
  go_wp2
  go_ret
  exact ⟨p, A, c, HP.out, rfl, HI.out, HB.out⟩

/-- 'true', and nothing that lay has turned -/
def RetTrue (w : World) (e : Ending) (w' : World) : Prop := e = .returned (.bool true) ∧ Below w.heap.size w w'
theorem below_drew (w : World) (n : Nat) : Below w.heap.size w (w.drewN n) := (Quiet.drew w n).below

set_option maxHeartbeats 800000 in
theorem same_any (xs : List Int) (n m : Nat) (hn : xs.length = n) (hm : xs.length = m) (w : World) (A B : Option Addr) (c d : Nat) (h1 : Ints w A c xs) (h2 : Ints w B d xs) :
    Calls Tryd.prog 12 #[.slice A n c, .slice B m d] w (RetTrue w) := by
  subst hn hm
  have hlm : xs.length ≤ 9223372036854775807 := Nat.le_trans h1.len (by have := Sl.top h1; simpa [maxLen] using this)
  have H1 := Lib.hid h1; have H2 := Lib.hid h2
  clear h1 h2
  go_enter Tryd.func12, Tryd.ntmps12
  go_wp2
  go_loopw [5] (fun i wr => ∃ k : Nat, k ≤ xs.length ∧ i = .int .i64 k ∧ Hid (Below w.heap.size w wr)) (fun i _ => xs.length - (intOf i).toNat)
  case atStart => exact ⟨0, Nat.zero_le _, rfl, Lib.hid (Below.refl _ _)⟩
  case round =>
    obtain ⟨k, hk, rfl, HB⟩ := hrel
    by_cases hlt : k < xs.length
    · obtain ⟨b, off, x, rfl, hx, hc0⟩ := H1.out.at_ hlt
      have hc := (HB.out.cell (p := ⟨b, off + k, none⟩) (World.block_lt_of_cell? w _ hc0)).trans hc0
      obtain ⟨b', off', y, rfl, hy, hd0⟩ := H2.out.at_ hlt
      have hd := (HB.out.cell (p := ⟨b', off' + k, none⟩) (World.block_lt_of_cell? w _ hd0)).trans hd0
      have hxy : y = x := by rw [hx] at hy; injection hy with hy; exact hy.symm
      subst hxy
      clear hx hy hc0 hd0
      go_wp2
      go_quiet (fail)
      go_wp2
      rename_i nq
      go_roundw
      case rel => exact ⟨k + 1, by omega, by go_num, Lib.hid (blw HB.out (below_drew wr nq))⟩
      case measure => simp [intOf]; omega
    · obtain rfl : k = xs.length := by omega
      go_wp2
      go_ret
      exact ⟨rfl, HB.out⟩

theorem hasI_any (xs : List Int) (n : Nat) (hn : xs.length = n) (v : Int) (w : World) (A : Option Addr) (c : Nat) (h : Ints w A c xs) (r : Bool) (hr : decide (v ∈ xs) = r) :
    Calls Tryd.prog 28 #[.slice A n c, .int .i64 v] w fun e w' => e = .returned (.bool r) ∧ w = w' := by
  subst hn
  have hlm : xs.length ≤ 9223372036854775807 := Nat.le_trans h.len (by have := Sl.top h; simpa [maxLen] using this)
  have H := Lib.hid h
  have HR := Lib.hid hr
  clear h hr
  go_enter Tryd.func28, Tryd.ntmps28
  go_wp2
  go_loop [5] (fun i => ∃ k : Nat, k ≤ xs.length ∧ i = .int .i64 k ∧ Hid (v ∉ xs.take k)) (fun i => xs.length - (intOf i).toNat)
  case atStart => exact ⟨0, Nat.zero_le _, rfl, Lib.hid (by simp)⟩
  case round =>
    obtain ⟨k, hk, rfl, HN⟩ := hrel
    by_cases hlt : k < xs.length
    · obtain ⟨b, off, x, rfl, hx, hc⟩ := H.out.at_ hlt
      have HX := Lib.hid hx
      clear hx
      by_cases e : x = v
      · subst e
        have HF : Hid (r = true) := Lib.hid (by rw [← HR.out]; simp [List.mem_of_getElem? HX.out])
        go_wp2
        go_ret
        rw [HF.out]
        exact ⟨rfl, rfl⟩
      · have e1 : (x == v) = false := by rw [beq_eq_false_iff_ne]; exact e
        have HE := Lib.hid e
        clear e
        go_wp2
        go_round
        case rel =>
          refine ⟨k + 1, by omega, by go_num, Lib.hid ?_⟩
          rw [take_succ_some HX.out]
          intro h
          rcases List.mem_append.1 h with h | h
          · exact HN.out h
          · simp at h; exact HE.out h.symm
        case measure => simp [intOf]; omega
    · obtain rfl : k = xs.length := by omega
      have HF : Hid (r = false) := Lib.hid (by rw [← HR.out]; have := HN.out; rw [List.take_length] at this; simp [this])
      go_wp2
      go_ret
      rw [HF.out]
      exact ⟨rfl, rfl⟩

end Go.Proofs.YtaokbjacfdipmaaDoor
