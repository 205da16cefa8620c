/- Join: the program's, and the document's. -/
import Derived.Test.YtejmofekbeaoeaaDoorRows
import Derived.Test.YtejmofekbeaoeaaDoorTxtRLines
namespace Go.Proofs.YtejmofekbeaoeaaDoor
open Go.RowKit Go.Shelf Go.Lib
set_option linter.unusedVariables false

def sumZ : List ByteArray → Nat
  | [] => 0
  | x :: r => x.size + 1 + sumZ r
theorem sumZ_app (a b : List ByteArray) : sumZ (a ++ b) = sumZ a + sumZ b := by
  induction a with
  | nil => simp [sumZ]
  | cons x r ih => simp only [List.cons_append, sumZ, ih]; omega
theorem sumZ_take {zs : List ByteArray} {k : Nat} {x : ByteArray} (h : zs[k]? = some x) : sumZ (zs.take (k + 1)) = sumZ (zs.take k) + 1 + x.size := by
  rw [map_some h, sumZ_app]; simp only [sumZ]; omega
theorem sumZ_take_le (zs : List ByteArray) (k : Nat) : sumZ (zs.take k) ≤ sumZ zs := by
  have := sumZ_app (zs.take k) (zs.drop k)
  rw [List.take_append_drop] at this
  omega
theorem sumZ_len (zs : List ByteArray) : zs.length ≤ sumZ zs := by
  induction zs with
  | nil => simp
  | cons x r ih => simp only [sumZ, List.length_cons]; omega
theorem joinL_len : ∀ zs : List ByteArray, (joinL (zs.map lst)).length ≤ sumZ zs
  | [] => by simp [joinL]
  | [x] => by simp only [List.map_cons, List.map_nil, joinL, sumZ, lst_len]; omega
  | x :: y :: r => by
    have := joinL_len (y :: r)
    simp only [List.map_cons, joinL, sumZ, List.length_append, List.length_cons, lst_len] at this ⊢
    omega
theorem joinL_step {zs : List ByteArray} {k : Nat} {x : ByteArray} (hk : 1 ≤ k) (h : zs[k]? = some x) : joinL ((zs.take (k + 1)).map lst) = joinL ((zs.take k).map lst) ++ 32 :: lst x := by
  have hl : k < zs.length := (List.getElem?_eq_some_iff.1 h).1
  rw [map_some h, List.map_append, List.map_cons, List.map_nil, joinL_snoc _ _ (by intro e; have := congrArg List.length e; rw [List.length_map, List.length_take, List.length_nil] at this; omega)]
theorem joinA_len : ∀ (l cur : List UInt8), (joinL (wordsA l cur)).length ≤ cur.length + l.length
  | [], cur => by
    unfold wordsA
    split
    · simp [joinL]
    · simp [joinL]
  | b :: t, cur => by
    have h1 := joinA_len t []
    have h2 := joinA_len t (cur ++ [b])
    unfold wordsA
    split
    · split
      · simp at h1 ⊢; omega
      · cases hw : wordsA t [] with
        | nil => simp [joinL]
        | cons y r =>
          rw [hw] at h1
          simp only [joinL, List.length_append, List.length_cons, List.length_nil] at h1 ⊢
          omega
    · split
      · simp [joinL]
      · simp at h2 ⊢; omega
theorem bs_nil : bs [] = ⟨#[]⟩ := rfl
theorem words_as2 (s : ByteArray) (w : World) (hs : s.size ≤ 1100000) (hT : Tabs w) (l : List UInt8) (h : lst s = l) (hv : validD l = true) (hc : ctlL l = false) :
    Calls Tryd.prog 13 #[.string s] w fun e w' => (∃ A c zs, e = .returned (.tuple #[.slice A zs.length c, .int .i64 0]) ∧ Strs w' A zs ∧ zs.map lst = wordsA l [] ∧ zs.length ≤ c) ∧ Below w.heap.size w w' := by
  have := words_any s w hs hT
  unfold WordsAt at this
  rw [h, (wordsV_yes hv hc).1, (wordsV_yes hv hc).2] at this
  exact this.mono fun e w' ⟨⟨A, c, zs, h1, h2, h3, h4, _⟩, hb⟩ => ⟨⟨A, c, zs, h1, h2, h3, h4⟩, hb⟩

theorem join_lib (A : Option Addr) (c : Nat) (zs : List ByteArray) (w : World) (hS : Strs w A zs) (hc : zs.length ≤ c) (hl : sumZ zs ≤ 1100000) :
    Calls Tryd.prog 33 #[.slice A zs.length c, .string ⟨#[32]⟩] w fun e w' => e = .returned (.string (bs (joinL (zs.map lst)))) ∧ Below w.heap.size w w' := by
  cases zs with
  | nil => exact (Any.strings_Join_none Tryd.lays156 Tryd.Builder_Extra_156 A c ⟨#[32]⟩ w).mono fun e w' ⟨he, hw⟩ => ⟨he, hw ▸ Below.refl _ _⟩
  | cons x r =>
    obtain ⟨b, off, hA, hlt, _⟩ := hS 0 x rfl
    subst hA
    have hlen := joinL_len (x :: r)
    have hz := sumZ_len (x :: r)
    rw [joinL_eq] at hlen ⊢
    exact Any.strings_Join Tryd.lays156 Tryd.Builder_Extra_156 b off c (x :: r) ⟨#[32]⟩ w (fun j y hy => by
      obtain ⟨b', off', e, _, hcell⟩ := hS j y hy
      cases e
      exact hcell) hlt (by omega) hc (by refine Nat.le_trans hlen ?_; omega)
theorem join_any (A : Option Addr) (c : Nat) (zs : List ByteArray) (w : World) (hS : Strs w A zs) (hc : zs.length ≤ c) (hl : sumZ zs ≤ 1100000) :
    Calls Tryd.prog 22 #[.slice A zs.length c] w fun e w' => e = .returned (.string (bs (joinL (zs.map lst)))) ∧ Below w.heap.size w w' := by
  have cJ := join_lib A c zs w hS hc hl
  clear hS
  generalize bs (joinL (zs.map lst)) = V at cJ ⊢
  go_enter Tryd.func22, Tryd.ntmps22
  go_wp2_with (go_at_call 33; refine cJ.mono ?_; rintro e w1 ⟨rfl, hb1⟩)
  go_ret
  exact ⟨rfl, hb1⟩

set_option maxHeartbeats 1600000 in
theorem rjoin_any (A : Option Addr) (c : Nat) (zs : List ByteArray) (w : World) (hS : Strs w A zs) (hl : sumZ zs ≤ 1100000) :
    Calls Tryd.prog 23 #[.slice A zs.length c] w fun e w' => e = .returned (.string (bs (joinL (zs.map lst)))) ∧ w = w' := by
  have hz := sumZ_len zs
  have HS := Lib.hid hS; clear hS
  by_cases h0 : zs.length = 0
  · have e0 : zs = [] := List.eq_nil_of_length_eq_zero h0
    subst e0
    clear h0 HS
    go_enter Tryd.func23, Tryd.ntmps23
    go_wp2
    go_ret
    exact ⟨rfl, rfl⟩
  · have hz0 : ((zs.length : Int) == 0) = false := by rw [beq_eq_false_iff_ne]; omega
    obtain ⟨b, off, x, rfl, ex, cx⟩ := HS.out.at_ (k := 0) (by omega)
    have hp : 0 < zs.length := by omega
    have H1 := Lib.hid (show lst x = joinL ((zs.take 1).map lst) from by rw [map_some ex]; simp [joinL])
    clear ex h0
    simp only [Nat.add_zero] at cx
    go_enter Tryd.func23, Tryd.ntmps23
    go_wp2
    go_loop [3, 4] (fun t i => ∃ (y : ByteArray) (k : Nat), t = .string y ∧ i = .int .i64 (k : Int) ∧ 1 ≤ k ∧ k ≤ zs.length ∧ Hid (lst y = joinL ((zs.take k).map lst))) (fun _ i => zs.length - (intOf i).toNat)
    case atStart => exact ⟨x, 1, rfl, rfl, by omega, by omega, H1⟩
    case round =>
      obtain ⟨y, k, rfl, rfl, hk1, hk, hi⟩ := hrel
      by_cases hlt : k < zs.length
      · obtain ⟨b', off', z, e', ez, cz⟩ := HS.out.at_ hlt
        cases e'
        have HE := Lib.hid (show lst (y ++ ⟨#[32]⟩ ++ z) = joinL ((zs.take (k + 1)).map lst) from by rw [joinL_step hk1 ez, lst_cat, lst_cat, hi.out]; show joinL _ ++ [32] ++ lst z = _; simp)
        have hyz : (y ++ ⟨#[32]⟩ ++ z : ByteArray).size ≤ 1100000 := by
          have h1 := joinL_len (zs.take (k + 1))
          have h2 := sumZ_take_le zs (k + 1)
          rw [← lst_len, HE.out]; omega
        have hyz2 : y.size + 1 + z.size ≤ 1100000 := by
          have e : (y ++ ⟨#[32]⟩ ++ z : ByteArray).size = y.size + 1 + z.size := by rw [cat_size, cat_size]; rfl
          omega
        clear ez hyz
        go_wp2
        go_round
        case rel => exact ⟨y ++ ⟨#[32]⟩ ++ z, k + 1, rfl, by go_num, by omega, by omega, HE⟩
        case measure => simp [intOf]; omega
      · have HE := Lib.hid (show bs (joinL (zs.map lst)) = y from by rw [← bs_lst y, hi.out, List.take_of_length_le (by omega)])
        go_wp2
        go_ret
        exact ⟨by rw [HE.out]; rfl, rfl⟩

theorem strs_of {W : World} {a : Addr} {len m : Nat} {Sx : Nat → ByteArray} (hlm : len ≤ m) (hcell : ∀ i, i < m → W.cell? (a.add i) = some (.string (Sx i)) ∧ (Sx i).size ≤ maxLen) : Strs W (some a) ((List.range len).map Sx) := by
  intro k x hx
  rw [List.getElem?_map] at hx
  have hk : k < len := by
    rcases Nat.lt_or_ge k len with h | h
    · exact h
    · rw [List.getElem?_eq_none (by simpa using h)] at hx; cases hx
  rw [List.getElem?_range hk] at hx
  obtain rfl : Sx k = x := by simpa using hx
  obtain ⟨b, off, spot⟩ := a
  have h := (hcell k (by omega)).1
  have hspot : spot = none := by simpa [Addr.add] using World.cell?_spot (hcell 0 (by omega)).1
  subst hspot
  rw [Go.WideShapes.add_plain] at h
  exact ⟨b, off, rfl, World.block_lt_of_cell? W _ h, h⟩
theorem bulk_of {H : Type} (Sx : Nat → ByteArray) : ∀ l : List Nat, sumZ (l.map Sx) = Rows.uptoBulkAll (H := H) (l.map fun i => .lit (.string (Sx i).data.toList))
  | [] => by simp [sumZ, Rows.uptoBulkAll]
  | i :: l => by
    have h := bulk_of (H := H) Sx l
    simp only [List.map_cons, sumZ, Rows.uptoBulkAll, Rows.uptoBulk]
    rw [h]
    rfl

end Go.Proofs.YtejmofekbeaoeaaDoor
