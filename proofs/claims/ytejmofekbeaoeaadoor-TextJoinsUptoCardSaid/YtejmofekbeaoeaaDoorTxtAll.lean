/- The document's Rune at every place, and All: the runes of a text, and whether all are right. -/
import Derived.Test.YtejmofekbeaoeaaDoorTxtRuneA
import Derived.Test.YtejmofekbeaoeaaDoorTxtRuneC
import Derived.Test.YtejmofekbeaoeaaDoorTxtRuneD
namespace Go.Proofs.YtejmofekbeaoeaaDoor
open Go.RowKit Go.Shelf Go.Lib
set_option linter.unusedVariables false

theorem rune_any (s : ByteArray) (i : Nat) (w : World) (hs : s.size ≤ 1100000) (hi : i < s.size) :
    Calls Tryd.prog 27 #[.string s, .int .i64 (i : Int)] w fun e w' => e = .returned (.tuple #[.int .i64 ((runeP (Utf8.decode s i)).1 : Nat), .int .i64 ((runeP (Utf8.decode s i)).2 : Nat)]) ∧ w = w' := by
  obtain ⟨B, hB⟩ : ∃ B : Nat → Nat, B = fun n => (s.get! n).toNat := ⟨_, rfl⟩
  have e : decB s B i = runeP (Utf8.decode s i) := by rw [decode_at]; subst hB; rfl
  have h1 : ∀ (n : Nat) (h : n < s.size), (s[n]'h).toNat = B n := fun n h => by subst hB; rw [← Utf8W.get!_of_lt s n h]
  have h2 : ∀ n, B n < 256 := fun n => by subst hB; exact UInt8.toNat_lt _
  rw [← e]
  clear hB e
  by_cases a : B i < 224 ∨ 248 ≤ B i
  · exact rune_A s i w hs hi B h1 h2 a
  by_cases b : B i < 240
  · exact rune_C s i w hs hi B h1 h2 (by omega) b
  · exact rune_D s i w hs hi B h1 h2 (by omega) (by omega)

def runeV (p : Nat × Nat) : Int := ((runeP p).1 : Nat)
def allI (l : List UInt8) : List Int := (dec l).map runeV
theorem bad_width {p : Nat × Nat} (h : bad p = true) : p.2 = 1 := by simp [bad] at h; exact h.2
theorem runeP_yes {p : Nat × Nat} (h : bad p = true) : runeP p = (0, 0) := by simp [runeP, h]
theorem runeP_no {p : Nat × Nat} (h : bad p = false) : runeP p = p := by simp [runeP, h]
theorem valid_at {s : ByteArray} {pos : Nat} (h : pos < s.size) : validD ((lst s).drop pos) = (!bad (Utf8.decode s pos) && validD ((lst s).drop (pos + (Utf8.decode s pos).2))) := by
  rw [valid_dec _ _ (Nat.le_refl _), valid_dec _ _ (Nat.le_refl _), dec_at h, List.all_cons]
theorem cell_new (w : World) (v : Value) (t : TypeId) : (w.alloc (.cells #[v] t)).cell? ⟨w.heap.size, 0, none⟩ = some v := by
  rw [cell_of_row (w.alloc (.cells #[v] t)) w.heap.size 0 #[v] t (0, 0) (by show (w.heap.push (Obj.cells #[v] t))[w.heap.size]? = _; simp)]
  rfl

set_option maxHeartbeats 3200000 in
theorem all_any (s : ByteArray) (w : World) (hs : s.size ≤ 1100000) :
    Calls Tryd.prog 16 #[.string s] w fun e w' => (∃ A c, e = .returned (.tuple #[.slice A (dec (lst s)).length c, .bool (validD (lst s))]) ∧ Ints w' A (allI (lst s))) ∧ Below w.heap.size w w' := by
  go_enter Tryd.func16, Tryd.ntmps16
  go_wp2
  go_loopw [4, 5, 6] (fun v o i wr => ∃ (xs : List Int) (ok : Bool) (k : Nat), Hid (OwnInts wr w.heap.size v xs) ∧ o = .bool ok ∧ i = .int .i64 (k : Int) ∧ k ≤ s.size ∧ xs.length ≤ k ∧ Below w.heap.size w wr ∧ Hid (xs ++ allI ((lst s).drop k) = allI (lst s)) ∧ Hid ((ok && validD ((lst s).drop k)) = validD (lst s))) (fun _ _ i _ => s.size - (intOf i).toNat)
  case atStart => exact ⟨[], true, 0, Lib.hid (OwnInts.nil _ _), rfl, rfl, by omega, by simp, Below.refl _ _, Lib.hid rfl, Lib.hid (by simp)⟩
  case round =>
    obtain ⟨xs, ok, k, hown, rfl, rfl, hk, hx, hbw, hi, hv⟩ := hrel
    by_cases hlt : k < s.size
    · have cR := rune_any s k wr hs hlt
      have hd := dec_width hlt
      have hi2 := hi.out
      have hv2 := hv.out
      rw [allI, dec_at hlt, List.map_cons] at hi2
      rw [valid_at hlt] at hv2
      have hsz := hbw.size
      cases hb : bad (Utf8.decode s k)
      · rw [runeP_no hb] at cR
        have hn0 : ((((Utf8.decode s k).2 : Nat) : Int) == 0) = false := by rw [beq_eq_false_iff_ne]; omega
        rw [hb] at hv2
        have HI := Lib.hid (show (xs ++ [((Utf8.decode s k).1 : Int)]) ++ allI ((lst s).drop (k + (Utf8.decode s k).2)) = allI (lst s) from by rw [← hi2, runeV, runeP_no hb]; simp [allI])
        have HV := Lib.hid (show (ok && validD ((lst s).drop (k + (Utf8.decode s k).2))) = validD (lst s) from by simpa using hv2)
        clear hi2 hv2 hb
        generalize Utf8.decode s k = dd at cR hd HI HV hn0
        obtain ⟨r, wd⟩ := dd
        simp only at cR hd HI HV hn0
        go_wp2_with (first | (go_at_call 27; refine cR.mono ?_; rintro e w' ⟨rfl, rfl⟩) | (at_builtin; refine wpList_appi rfl (.tmp 21) (.tmp 23) rfl w.heap.size _ xs rfl (hown.out.alloc _) wr.heap.size (r : Int) rfl (cell_new _ _ _) (by omega) (by simp; omega) ?_; intro v' w2 hown2 hb2))
        go_roundw
        case rel => exact ⟨xs ++ [(r : Int)], ok, k + wd, Lib.hid hown2, rfl, by go_num, by omega, by simp; omega, (hbw.alloc hsz _).trans hb2, HI, HV⟩
        case measure => simp [intOf]; omega
      · rw [runeP_yes hb] at cR
        rw [hb] at hv2
        have hw1 := bad_width hb
        rw [hw1] at hi2 hv2
        have HI := Lib.hid (show (xs ++ [(0 : Int)]) ++ allI ((lst s).drop (k + 1)) = allI (lst s) from by rw [← hi2, runeV, runeP_yes hb]; simp [allI])
        have HV := Lib.hid (show (false && validD ((lst s).drop (k + 1))) = validD (lst s) from by simpa using hv2)
        clear hi2 hv2 hb hw1 hd
        go_wp2_with (first | (go_at_call 27; refine cR.mono ?_; rintro e w' ⟨rfl, rfl⟩) | (at_builtin; refine wpList_appi rfl (.tmp 21) (.tmp 23) rfl w.heap.size _ xs rfl (hown.out.alloc _) wr.heap.size (0 : Int) rfl (cell_new _ _ _) (by omega) (by simp; omega) ?_; intro v' w2 hown2 hb2))
        go_roundw
        case rel => exact ⟨xs ++ [(0 : Int)], false, k + 1, Lib.hid hown2, rfl, by go_num, by omega, by simp; omega, (hbw.alloc hsz _).trans hb2, HI, HV⟩
        case measure => simp [intOf]; omega
    · have hi2 := hi.out
      have hv2 := hv.out
      rw [drop_end hlt] at hi2 hv2
      have hx2 : xs = allI (lst s) := by rw [← hi2]; simp [allI, dec_nil]
      have ho2 : ok = validD (lst s) := by rw [← hv2]; simp [validD_nil]
      have hl2 : xs.length = (dec (lst s)).length := by rw [hx2, allI, List.length_map]
      obtain ⟨A, c, hv3, hI3⟩ := hown.out.ints
      have HX := Lib.hid hx2; have HO := Lib.hid ho2; have HL := Lib.hid hl2; have HV := Lib.hid hv3
      clear hx2 ho2 hl2 hi2 hv2 hv3
      go_wp2
      go_ret2
      refine ⟨⟨A, c, ?_, by rw [← HX.out]; exact hI3⟩, hbw⟩
      rw [← HO.out, ← HL.out, ← HV.out]
      rfl

end Go.Proofs.YtejmofekbeaoeaaDoor
