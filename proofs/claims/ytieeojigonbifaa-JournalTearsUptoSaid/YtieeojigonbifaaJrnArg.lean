/- Arguments that are slices of bytes, or of these: what they hold when the call begins; and how much that is, by the count of the second form. -/
import Derived.Test.YtieeojigonbifaaRows
import Derived.Test.YtieeojigonbifaaJrnObj
import Derived.Deep.Slices
namespace Go.Proofs.Ytieeojigonbifaa
open Go.ChangeShapes Go.WideShapes Go.ChangeAt Go.RowKit
set_option linter.unusedVariables false
section
variable {H : Type} {enc : TypeId × Value → H} {w : World}

theorem wf_u8 {x : Int} (h : (Lit.int .u8 x).wf = true) : 0 ≤ x ∧ x ≤ 255 := by
  simpa [Lit.wf, IntKind.min, IntKind.max, IntKind.signed, IntKind.bits] using h
theorem bulk_lits (l : List Int) : Rows.uptoBulkAll (H := H) (lits .u8 l) = l.length := by
  induction l with
  | nil => simp [lits, Rows.uptoBulkAll]
  | cons x l ih =>
    simp only [lits, List.map_cons, Rows.uptoBulkAll, Rows.uptoBulk, List.length_cons] at ih ⊢
    omega

theorem byts_arg {fuel : Nat} {v : Value} {x : DataW H × List MemPlace} (h : DataW.trod enc Try.prog w 0 (fun _ => true) true fuel 22 [v] = some x) :
    ∃ (A : Option Addr) (c : Nat) (xs : List Int), v = .slice A xs.length c ∧ Byts w (fun _ => True) A c xs ∧ xs.length + 1 ≤ Rows.uptoBulk x.1 := by
  rcases open_ints Try.underlying22 Try.underlying5 (by kernel_rfl) h with ⟨hcs, hx⟩ | ⟨a, l, c, zs, hcs, _, hl, hm, hz, hx, hcell, hwz⟩
  · simp at hcs
    subst hcs hx
    exact ⟨none, 0, [], rfl, Byts.empty _ _, by simp [Rows.uptoBulk]⟩
  · simp at hcs
    subst hcs
    simp only [if_true] at hz
    have hlen : (zs.take l).length = l := by rw [List.length_take]; omega
    refine ⟨some a, c, zs.take l, by rw [hlen], ⟨fun k y hy => ?_, by omega, hm, fun e => by cases e⟩, ?_⟩
    · have hk : k < zs.length := by
        have := (List.getElem?_eq_some_iff.1 hy).1
        rw [List.length_take] at this
        omega
      obtain ⟨b, off, rfl, hc⟩ := ints_at hcell (by omega)
      have h1 := hc k hk
      have e : zs.getD k 0 = y := by
        rw [List.getElem?_take] at hy
        split at hy
        · rw [List.getD_eq_getElem?_getD, hy]; rfl
        · cases hy
      rw [e] at h1
      refine ⟨b, off, rfl, trivial, h1, wf_u8 (hwz y ?_)⟩
      exact List.mem_of_mem_take (List.mem_of_getElem? hy)
    · subst hx
      simp only [Rows.uptoBulk, bulk_lits, hlen]
      omega

/-- how many values the lists are, by the count -/
def cnt : List (List Int) → Nat
  | [] => 0
  | x :: r => x.length + 1 + cnt r
theorem cnt_app (a b : List (List Int)) : cnt (a ++ b) = cnt a + cnt b := by
  induction a with
  | nil => simp [cnt]
  | cons x a ih => simp only [List.cons_append, cnt, ih]; omega
theorem bulkAll_app (l r : List (DataW H)) : Rows.uptoBulkAll (l ++ r) = Rows.uptoBulkAll l + Rows.uptoBulkAll r := by
  induction l with
  | nil => simp [Rows.uptoBulkAll]
  | cons x l ih => simp only [List.cons_append, Rows.uptoBulkAll, ih]; omega

theorem rows_arg {fuel : Nat} {v : Value} {x : DataW H × List MemPlace} (h : DataW.trod enc Try.prog w 0 (fun _ => true) true fuel 34 [v] = some x) :
    ∃ (A : Option Addr) (c : Nat) (ls : List (List Int)), v = .slice A ls.length c ∧ Rws w (fun _ => True) A c ls ∧ cnt ls + 1 ≤ Rows.uptoBulk x.1 := by
  rcases Go.Deep.open_slice Try.underlying34 h with ⟨hcs, hx⟩ | ⟨a, l, c, m, n, D, Pl, hcs, _, hl, hm, hmm, hx, hi⟩
  · simp at hcs
    subst hcs hx
    exact ⟨none, 0, [], rfl, Rws.empty _ _, by simp [Rows.uptoBulk, cnt]⟩
  · simp at hcs
    subst hcs
    simp only [if_true] at hmm
    have hone : Try.prog.cellsOf 22 = 1 := by kernel_rfl
    have each : ∀ i, i < l → ∃ (A' : Option Addr) (c' : Nat) (xs : List Int), w.cell? (a.add i) = some (.slice A' xs.length c') ∧ Byts w (fun _ => True) A' c' xs ∧ xs.length + 1 ≤ Rows.uptoBulk (D i) := by
      intro i hil
      obtain ⟨cs', h1, h2⟩ := hi i (by omega)
      rw [hone] at h1
      obtain ⟨_, hcl, hat⟩ := World.cells?_some h1
      match cs', hcl with
      | [u], _ =>
        obtain ⟨A', c', xs, e, hb, hq⟩ := byts_arg h2
        refine ⟨A', c', xs, ?_, hb, hq⟩
        have h3 := hat 0 (by omega)
        rw [Nat.mul_one] at h3
        have e0 : (a.add i).add 0 = a.add i := by simp [Addr.add]
        rw [e0] at h3
        rw [h3, ← e]
        rfl
    have H2 : ∀ j, j ≤ l → ∃ ls : List (List Int), ls.length = j ∧ cnt ls ≤ Rows.uptoBulkAll ((List.range j).map D) ∧ ∀ k xs, ls[k]? = some xs → ∃ (A' : Option Addr) (c' : Nat), w.cell? (a.add k) = some (.slice A' xs.length c') ∧ Byts w (fun _ => True) A' c' xs := by
      intro j
      induction j with
      | zero => exact fun _ => ⟨[], rfl, by simp [cnt], fun k xs hx => by simp at hx⟩
      | succ j ih =>
        intro hj
        obtain ⟨ls, e1, e2, e3⟩ := ih (by omega)
        obtain ⟨A', c', xs, f1, f2, f3⟩ := each j (by omega)
        refine ⟨ls ++ [xs], by simp [e1], ?_, fun k ys hy => ?_⟩
        · rw [List.range_succ, List.map_append, bulkAll_app, cnt_app]
          simp only [List.map_cons, List.map_nil, cnt, Rows.uptoBulkAll]
          omega
        · rcases Nat.lt_or_ge k j with hlt | hge
          · rw [List.getElem?_append_left (by omega)] at hy
            exact e3 k ys hy
          · rw [List.getElem?_append_right (by omega), e1] at hy
            have hk : k = j := by
              have := (List.getElem?_eq_some_iff.1 hy).1
              simp at this; omega
            subst hk
            simp at hy
            subst hy
            exact ⟨A', c', f1, f2⟩
    obtain ⟨ls, e1, e2, e3⟩ := H2 l (Nat.le_refl _)
    refine ⟨some a, c, ls, by rw [e1], ⟨fun k xs hk => ?_, by omega, hm, fun e => by cases e⟩, ?_⟩
    · obtain ⟨A', c', f1, f2⟩ := e3 k xs hk
      obtain ⟨b, off, rfl⟩ : ∃ b off, a = ⟨b, off, none⟩ := by
        have hl0 : 0 < l := by have := (List.getElem?_eq_some_iff.1 hk).1; omega
        obtain ⟨A0, c0, xs0, g1, _⟩ := each 0 hl0
        obtain ⟨b, off, spot⟩ := a
        have hspot : spot = none := by simpa [Addr.add] using World.cell?_spot g1
        subst hspot
        exact ⟨b, off, rfl⟩
      rw [Go.WideShapes.add_plain] at f1
      exact ⟨b, off, A', c', rfl, trivial, f1, f2⟩
    · subst hx
      simp only [Rows.uptoBulk]
      omega
end

end Go.Proofs.Ytieeojigonbifaa
