/- Whether two lists of bytes, or of lists of bytes, are the same. -/
import Derived.Test.YtieeojigonbifaaJrnFrame
import Derived.Deep.QuietTactic
import Derived.BigQuiet
namespace Go.Proofs.Ytieeojigonbifaa
open Go.RowKit
set_option linter.unusedVariables false

/-- a list of bytes as a string -/
def str (xs : List Int) : ByteArray := strOfNums xs
def sameB (xs ys : List Int) : Bool := decide (xs = ys)
theorem run_str {R : Nat → Prop} {A : Option Addr} {c : Nat} {xs : List Int} (n : Nat) (w : World) (h : Byts w R A c xs) (hn : xs.length = n) :
    (convert 22 9 (.slice A n c)).run Try.prog w = .ok (.string (str xs)) w := by
  subst hn
  rcases xs with _ | ⟨x, r⟩
  · rcases A with _ | a
    · rw [run_convert_bytes_nil w _ _ Try.underlying22 Try.underlying5 _ _ _ Try.underlying9]
      rfl
    · rw [run_convert_bytes_string w _ _ _ _ _ _ Try.underlying22 Try.underlying5 Try.underlying9, show ([] : List Int).length = 0 from rfl, run_bytesToString w a 0 c [] (run_loadCells_list w a [] (fun j v h => by simp at h))]
      rfl
  · obtain ⟨b, off, e, _⟩ := h.cells 0 x rfl
    subst e
    refine run_convert_bytes_arg w _ _ Try.underlying22 Try.underlying5 b off _ c (x :: r) rfl ?_ _ Try.underlying9
    intro i hi
    have hx : (x :: r)[i]? = some (x :: r)[i] := List.getElem?_eq_getElem hi
    obtain ⟨b2, off2, e2, _, hc, _⟩ := h.cells i _ hx
    injection e2 with e2
    injection e2 with e2 e3
    subst e2 e3
    rw [hc, List.getD_eq_getElem?_getD, hx]; rfl

theorem u8_inj {a b : Int} (ha : 0 ≤ a ∧ a ≤ 255) (hb : 0 ≤ b ∧ b ≤ 255) (h : UInt8.ofNat a.toNat = UInt8.ofNat b.toNat) : a = b := by
  have := congrArg UInt8.toNat h
  simp only [UInt8.toNat_ofNat'] at this
  omega
theorem str_inj {xs ys : List Int} (hx : Bts xs) (hy : Bts ys) (h : xs.map (fun n => UInt8.ofNat n.toNat) = ys.map (fun n => UInt8.ofNat n.toNat)) : xs = ys := by
  induction xs generalizing ys with
  | nil => cases ys with
    | nil => rfl
    | cons y r => simp at h
  | cons x xs ih => cases ys with
    | nil => simp at h
    | cons y r =>
      simp only [List.map_cons, List.cons.injEq] at h
      rw [u8_inj (hx x (by simp)) (hy y (by simp)) h.1, ih (fun z hz => hx z (by simp [hz])) (fun z hz => hy z (by simp [hz])) h.2]
theorem str_same {xs ys : List Int} (hx : Bts xs) (hy : Bts ys) : ((str xs).toList == (str ys).toList) = sameB xs ys := by
  rw [ByteArray.toList_eq, ByteArray.toList_eq]
  unfold str sameB
  rw [strOfNums_data, strOfNums_data]
  by_cases h : xs = ys
  · subst h; simp
  · rw [decide_eq_false h, beq_eq_false_iff_ne]
    exact fun e => h (str_inj hx hy e)
theorem ret_bool {a b : Bool} (h : a = b) : Ending.returned (.bool a) = .returned (.bool b) := by rw [h]

set_option maxHeartbeats 400000 in
theorem rsame_any (R R' : Nat → Prop) (A B : Option Addr) (c d n m : Nat) (xs ys : List Int) (w : World) (h : Byts w R A c xs) (h' : Byts w R' B d ys) (hn : xs.length = n) (hm : ys.length = m) (r : Bool) (hr : sameB xs ys = r) :
    Calls Try.prog 15 #[.slice A n c, .slice B m d] w fun e w' => e = .returned (.bool r) ∧ w = w' := by
  have e1 := run_str n w h hn
  have e2 := run_str m w h' hm
  have H := Lib.hid h; clear h
  have H' := Lib.hid h'; clear h'
  have HR := Lib.hid hr; clear hr
  have HN := Lib.hid hn; clear hn
  have HM := Lib.hid hm; clear hm
  go_enter Try.func15, Try.ntmps15
  go_wp2
  go_ret
  exact ⟨ret_bool (by rw [str_same H.out.bts H'.out.bts]; exact HR.out), rfl⟩

def sameL (a b : List (List Int)) : Bool := decide (a = b)
theorem sameL_no {a b : List (List Int)} {k : Nat} {x y : List Int} (hx : a[k]? = some x) (hy : b[k]? = some y) (h : x ≠ y) : sameL a b = false := by
  unfold sameL
  rw [decide_eq_false]
  intro e
  subst e
  rw [hx] at hy
  injection hy with hy
  exact h hy
theorem sameL_yes {a b : List (List Int)} (hl : a.length = b.length) (h : ∀ (k : Nat) (x y : List Int), a[k]? = some x → b[k]? = some y → x = y) : sameL a b = true := by
  unfold sameL
  rw [decide_eq_true]
  refine List.ext_getElem? fun k => ?_
  rcases Nat.lt_or_ge k a.length with hlt | hge
  · have hx : a[k]? = some a[k] := List.getElem?_eq_getElem hlt
    have hy : b[k]? = some (b[k]'(by omega)) := List.getElem?_eq_getElem (by omega)
    rw [hx, hy, h k _ _ hx hy]
  · rw [List.getElem?_eq_none hge, List.getElem?_eq_none (by omega)]

set_option maxHeartbeats 1000000 in
theorem rsameL_any (R R' : Nat → Prop) (A B : Option Addr) (c d n m : Nat) (xs ys : List (List Int)) (w : World) (h : Rws w R A c xs) (h' : Rws w R' B d ys) (hn : xs.length = n) (hm : ys.length = m) (r : Bool) (hr : sameL xs ys = r) :
    Calls Try.prog 19 #[.slice A n c, .slice B m d] w fun e w' => e = .returned (.bool r) ∧ Below w.heap.size w w' := by
  have hl : n ≤ 9223372036854775807 := by rw [← hn]; exact Nat.le_trans h.cap h.top
  have hl' : m ≤ 9223372036854775807 := by rw [← hm]; exact Nat.le_trans h'.cap h'.top
  have HN := Lib.hid hn; clear hn
  have HM := Lib.hid hm; clear hm
  have H := Lib.hid h; clear h
  have H' := Lib.hid h'; clear h'
  have HR := Lib.hid hr; clear hr
  by_cases hnm : n = m
  · subst hnm
    go_enter Try.func19, Try.ntmps19
    go_wp2
    go_loopw [5] (fun i wr => ∃ k : Nat, k ≤ n ∧ i = .int .i64 k ∧ Hid (∀ (j : Nat) (x y : List Int), j < k → xs[j]? = some x → ys[j]? = some y → x = y) ∧ Hid (Below w.heap.size w wr)) (fun i _ => n - (intOf i).toNat)
    case atStart => exact ⟨0, Nat.zero_le _, rfl, Lib.hid (fun j x y hj => by omega), Lib.hid (Below.refl _ _)⟩
    case round =>
      obtain ⟨k, hk, rfl, hsame, hbw⟩ := hrel
      by_cases hlt : k < n
      · obtain ⟨b, off, A', c', x, rfl, _, hx, hc, hB⟩ := (H.out.below hbw.out).at_ (k := k) (by rw [HN.out]; exact hlt)
        obtain ⟨b', off', A2, c2, y, rfl, _, hy, hc2, hB2⟩ := (H'.out.below hbw.out).at_ (k := k) (by rw [HM.out]; exact hlt)
        have HX := Lib.hid hx; clear hx
        have HY := Lib.hid hy; clear hy
        have ex : ∀ nq, (convert 22 9 (.slice A' x.length c')).run Try.prog (wr.drewN nq) = .ok (.string (str x)) (wr.drewN nq) := fun nq => run_str _ _ (hB.keep (w' := wr.drewN nq) fun _ _ _ => rfl) rfl
        have ey : ∀ nq, (convert 22 9 (.slice A2 y.length c2)).run Try.prog (wr.drewN nq) = .ok (.string (str y)) (wr.drewN nq) := fun nq => run_str _ _ (hB2.keep (w' := wr.drewN nq) fun _ _ _ => rfl) rfl
        have HB := Lib.hid hB; clear hB
        have HB2 := Lib.hid hB2; clear hB2
        have hs := str_same HB.out.bts HB2.out.bts
        by_cases hxy : x = y
        · have hq : ((str x).toList == (str y).toList) = true := by
            unfold sameB at hs; rw [decide_eq_true hxy] at hs; exact hs
          clear hs
          have HXY := Lib.hid hxy; clear hxy
          go_wp2
          go_quiet (fail)
          go_wp2
          go_roundw
          case rel =>
            refine ⟨k + 1, by omega, by go_num, Lib.hid ?_, Lib.hid (hbw.out.trans ⟨rfl, rfl, rfl, Nat.le_refl _, fun _ _ => rfl⟩)⟩
            intro j x' y' hj hx' hy'
            rcases Nat.lt_or_ge j k with h1 | h1
            · exact hsame.out j x' y' h1 hx' hy'
            · have : j = k := by omega
              subst this
              rw [HX.out] at hx'
              rw [HY.out] at hy'
              injection hx' with hx'
              injection hy' with hy'
              rw [← hx', ← hy']; exact HXY.out
          case measure => simp [intOf]; omega
        · have hq : ((str x).toList == (str y).toList) = false := by
            unfold sameB at hs; rw [decide_eq_false hxy] at hs; exact hs
          clear hs
          have HXY := Lib.hid hxy; clear hxy
          go_wp2
          go_quiet (fail)
          go_wp2
          go_ret
          exact ⟨ret_bool (by rw [← HR.out]; exact (sameL_no HX.out HY.out HXY.out).symm), hbw.out.trans ⟨rfl, rfl, rfl, Nat.le_refl _, fun _ _ => rfl⟩⟩
      · go_wp2
        go_ret
        exact ⟨ret_bool (by rw [← HR.out]; exact (sameL_yes (by rw [HN.out, HM.out]) (fun j x y hx hy => hsame.out j x y (by have := (List.getElem?_eq_some_iff.1 hx).1; have := HN.out; omega) hx hy)).symm), hbw.out⟩
  · have hne : ((n : Int) != (m : Int)) = true := by rw [bne_iff_ne]; omega
    have hr : r = false := by rw [← HR.out]; unfold sameL; rw [decide_eq_false]; intro e; apply hnm; rw [← HN.out, ← HM.out, e]
    subst hr
    go_enter Try.func19, Try.ntmps19
    go_wp2
    go_ret
    exact ⟨rfl, Below.refl _ _⟩

end Go.Proofs.Ytieeojigonbifaa
