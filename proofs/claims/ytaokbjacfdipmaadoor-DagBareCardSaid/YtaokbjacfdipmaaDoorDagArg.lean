/- Arguments that are slices of int, or of these: what they hold, and how long each is at most; the table that the row lists. -/
import Derived.Test.YtaokbjacfdipmaaDoorRows
import Derived.Test.YtaokbjacfdipmaaDoorDagKnown
import Derived.Deep.Slices
import Derived.SizedLaws
import Derived.Lib.LaidU8T
import Derived.Lib.LaidTab
import Derived.Lay
namespace Go.Proofs.YtaokbjacfdipmaaDoor
open Go.ChangeShapes Go.WideShapes Go.ChangeAt Go.RowKit Go.Shelf Go.Lib
set_option linter.unusedVariables false

section
variable {H : Type} {enc : TypeId × Value → H} {w : World}
theorem ints_arg {fuel : Nat} {v : Value} {x : DataW H × List MemPlace} (h : DataW.trod enc Tryd.prog w 0 (fun _ => true) true fuel 30 [v] = some x) :
    ∃ (A : Option Addr) (c : Nat) (xs : List Int), v = .slice A xs.length c ∧ Ints w A c xs := by
  rcases open_ints Tryd.underlying30 Tryd.underlying3 (by kernel_rfl) h with ⟨hcs, hx⟩ | ⟨a, l, c, zs, hcs, _, hl, hm, hz, hx, hcell, hwz⟩
  · simp at hcs
    subst hcs hx
    exact ⟨none, 0, [], rfl, Ints.empty _⟩
  · simp at hcs
    subst hcs
    simp only [if_true] at hz
    have hlen : (zs.take l).length = l := by rw [List.length_take]; omega
    refine ⟨some a, c, zs.take l, by rw [hlen], ⟨fun k u hu => ?_, by rw [ints_len]; omega, hm, fun e => by cases e⟩⟩
    obtain ⟨y, hy, rfl⟩ := ints_get' hu
    have hk : k < zs.length := by
      have := (List.getElem?_eq_some_iff.1 hy).1
      rw [List.length_take] at this
      omega
    obtain ⟨b, off, rfl, hc⟩ := ints_at hcell (by omega)
    have h1 := hc k hk
    have e : zs.getD k 0 = y := by
      rw [List.getElem?_take] at hy
      split at hy
      · rw [List.getD_eq_getElem?_getD, hy]; rfl
      · cases hy
    rw [e] at h1
    exact ⟨b, off, rfl, h1⟩

theorem rows_arg {fuel : Nat} {v : Value} {x : DataW H × List MemPlace} (h : DataW.trod enc Tryd.prog w 0 (fun _ => true) true fuel 22 [v] = some x) :
    ∃ (A : Option Addr) (c : Nat) (ls : List (List Int)), v = .slice A ls.length c ∧ IRows w A c ls := by
  rcases Go.Deep.open_slice Tryd.underlying22 h with ⟨hcs, hx⟩ | ⟨a, l, c, m, n, D, Pl, hcs, _, hl, hm, hmm, hx, hi⟩
  · simp at hcs
    subst hcs hx
    exact ⟨none, 0, [], rfl, IRows.empty _⟩
  · simp at hcs
    subst hcs
    simp only [if_true] at hmm
    have hone : Tryd.prog.cellsOf 30 = 1 := by kernel_rfl
    have each : ∀ i, i < l → ∃ (A' : Option Addr) (c' : Nat) (xs : List Int), w.cell? (a.add i) = some (.slice A' xs.length c') ∧ Ints w A' c' xs := by
      intro i hil
      obtain ⟨cs', h1, h2⟩ := hi i (by omega)
      rw [hone] at h1
      obtain ⟨_, hcl, hat⟩ := World.cells?_some h1
      match cs', hcl with
      | [u], _ =>
        obtain ⟨A', c', xs, e, hb⟩ := ints_arg h2
        refine ⟨A', c', xs, ?_, hb⟩
        have h3 := hat 0 (by omega)
        rw [Nat.mul_one] at h3
        have e0 : (a.add i).add 0 = a.add i := by simp [Addr.add]
        rw [e0] at h3
        rw [h3, ← e]
        rfl
    have H2 : ∀ j, j ≤ l → ∃ ls : List (List Int), ls.length = j ∧ ∀ k xs, ls[k]? = some xs → ∃ (A' : Option Addr) (c' : Nat), w.cell? (a.add k) = some (.slice A' xs.length c') ∧ Ints w A' c' xs := by
      intro j
      induction j with
      | zero => exact fun _ => ⟨[], rfl, fun k xs hx => by simp at hx⟩
      | succ j ih =>
        intro hj
        obtain ⟨ls, e1, e3⟩ := ih (by omega)
        obtain ⟨A', c', xs, f1, f2⟩ := each j (by omega)
        refine ⟨ls ++ [xs], by simp [e1], fun k ys hy => ?_⟩
        rcases Nat.lt_or_ge k j with hlt | hge
        · rw [List.getElem?_append_left (by omega)] at hy
          exact e3 k ys hy
        · rw [List.getElem?_append_right (by omega), e1] at hy
          have hk : k = j := by
            have := (List.getElem?_eq_some_iff.1 hy).1
            simp at this; omega
          subst hk
          simp at hy
          subst hy
          exact ⟨A', c', f1, f2⟩
    obtain ⟨ls, e1, e3⟩ := H2 l (Nat.le_refl _)
    refine ⟨some a, c, ls, by rw [e1], ⟨fun k xs hk => ?_, by omega, hm, fun e => by cases e⟩⟩
    obtain ⟨A', c', f1, f2⟩ := e3 k xs hk
    obtain ⟨b, off, rfl⟩ : ∃ b off, a = ⟨b, off, none⟩ := by
      have hl0 : 0 < l := by have := (List.getElem?_eq_some_iff.1 hk).1; omega
      obtain ⟨A0, c0, xs0, g1, _⟩ := each 0 hl0
      obtain ⟨b, off, spot⟩ := a
      have hspot : spot = none := by simpa [Addr.add] using World.cell?_spot g1
      subst hspot
      exact ⟨b, off, rfl⟩
    rw [Go.WideShapes.add_plain] at f1
    exact ⟨b, off, A', c', rfl, f1, f2⟩

theorem weights_all {p : Nat → Bool} {e : TypeId} {l : List (DataW H)} {d : DataW H} (h : (DataW.weightsAll Tryd.prog e l).all p = true) (hd : d ∈ l) : (d.weights Tryd.prog e).all p = true := by
  induction l with
  | nil => cases hd
  | cons x l ih =>
    rw [DataW.weightsAll, List.all_append, Bool.and_eq_true] at h
    rcases List.mem_cons.1 hd with rfl | hd
    · exact h.1
    · exact ih h.2 hd
theorem weights_at {ts : List TypeId} {ds : List (DataW H)} (h : (DataW.weightsEach Tryd.prog ts ds).all (· ≤ reachBytes) = true) {j : Nat} {t : TypeId} {d : DataW H} (ht : ts[j]? = some t) (hd : ds[j]? = some d) :
    (d.weights Tryd.prog t).all (· ≤ reachBytes) = true :=
  List.all_eq_true.2 fun n hn => List.all_eq_true.1 h _ (DataW.weights_mem_each ht hd n hn)

theorem rows_sized {fuel : Nat} {v : Value} {x : DataW H × List MemPlace} (h : DataW.trod enc Tryd.prog w 0 (fun _ => true) true fuel 22 [v] = some x) (hz : (x.1.weights Tryd.prog 22).all (· ≤ reachBytes) = true)
    {A : Option Addr} {c : Nat} {ls : List (List Int)} (hv : v = .slice A ls.length c) (hr : IRows w A c ls) : ∀ xs ∈ ls, xs.length ≤ 140737488355328 := by
  intro xs hxs
  obtain ⟨k, hk⟩ := List.getElem?_of_mem hxs
  have hkl := (List.getElem?_eq_some_iff.1 hk).1
  obtain ⟨b, off, A', c', hA, hcell, hB⟩ := hr.cells k xs hk
  rcases Go.Deep.open_slice1 Tryd.underlying22 (by kernel_rfl) h with ⟨hcs, hx⟩ | ⟨a, l, cp, m, n, V, D, Pl, hcs, _, hl, hm, hmm, hx, hi⟩
  · simp at hcs
    rw [hv] at hcs
    injection hcs with _ e _
    omega
  · simp at hcs
    rw [hv] at hcs
    injection hcs with ea eb ec
    subst eb
    simp only [if_true] at hmm
    obtain ⟨h1, h2⟩ := hi k (by omega)
    rw [ea] at hA
    injection hA with hA
    rw [hA, Go.WideShapes.add_plain, hcell] at h1
    injection h1 with h1
    subst hx
    simp only [DataW.weights, Tryd.underlying22, List.all_cons, List.all_append, Bool.and_eq_true] at hz
    have hz2 := weights_all hz.2.1 (d := D k) (List.mem_map.2 ⟨k, List.mem_range.2 hkl, rfl⟩)
    rw [← h1] at h2
    rcases open_ints Tryd.underlying30 Tryd.underlying3 (by kernel_rfl) h2 with ⟨hcs, hx⟩ | ⟨a, l, c, zs, hcs, _, hl, hm, hz', hx, _, _⟩
    · simp at hcs
      rw [hcs.2.1]; simp
    · simp at hcs
      have hx1 : D k = .slice (lits .i64 (zs.take l)) (lits .i64 (zs.drop l)) := congrArg Prod.fst hx
      rw [hx1] at hz2
      have hb : Tryd.prog.bytesOf 3 = 8 := by kernel_rfl
      simp only [DataW.weights, Tryd.underlying30, List.all_cons, Bool.and_eq_true, hb] at hz2
      have := of_decide_eq_true hz2.1
      simp [lits] at this
      simp only [if_true] at hz'
      unfold reachBytes at this
      omega
end

def laid1 : List (String × DataW Unit) := [("math/bits.deBruijn64tab", Rows.laid_math_bits_deBruijn64tab)]
def tabI : List Int := Lib.deBruijn64tab.map fun (n : Nat) => (n : Int)
set_option maxRecDepth 100000 in
theorem laid_eq : Rows.laid_math_bits_deBruijn64tab = tabData (H := Unit) .u8 tabI := by kernel_rfl
theorem gP : Tryd.prog.globalNamed "math/bits.deBruijn64tab" = some 0 := by kernel_rfl
theorem gPT : (Tryd.prog.globals[0]?).map (·.type) = some 74 := by kernel_rfl
theorem cells64 : Tryd.prog.cellsOf 74 = 64 := by kernel_rfl
theorem cells1 : Tryd.prog.cellsOf 5 = 1 := by kernel_rfl
theorem tab_of {W : World} (hL : laidMet Tryd.prog laid1 W) : Tab W := by
  have r0 := Lib.laidMet.reads hL (.head _)
  rw [laid_eq] at r0
  obtain ⟨g', t', cs, fuel, p, hg', ht', hvar, hd⟩ := r0
  obtain rfl := Option.some.inj (gP.symm.trans hg')
  obtain rfl := Option.some.inj (gPT.symm.trans ht')
  have hT : Lib.TabIs Tryd.prog W "math/bits.deBruijn64tab" .u8 tabI := by
    unfold Lib.TabIs
    rw [hvar, ← cells_of_tab Tryd.underlying74 Tryd.underlying5 cells1 cells64 hd]
  intro j hj
  have h := hT.cell gP j (by unfold tabI; rw [List.length_map]; exact hj)
  rw [h]
  unfold tabI
  rw [List.getD_eq_getElem?_getD, List.getD_eq_getElem?_getD, List.getElem?_map]
  rw [List.getElem?_eq_getElem hj]
  rfl

end Go.Proofs.YtaokbjacfdipmaaDoor
