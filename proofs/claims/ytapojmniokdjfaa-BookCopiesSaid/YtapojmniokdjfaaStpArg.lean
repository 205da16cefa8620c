/- Arguments that are slices of steps: what they hold. -/
import Derived.Test.YtapojmniokdjfaaStpMem
import Derived.Test.YtapojmniokdjfaaRows
import Derived.Deep.Slices
import Derived.SizedLaws
namespace Go.Proofs.Ytapojmniokdjfaa.Stp
open Go.ChangeShapes Go.WideShapes Go.ChangeAt Go.RowKit Go.Shelf Go.Lib
set_option linter.unusedVariables false
set_option maxRecDepth 100000
section
variable {H : Type} {enc : TypeId × Value → H} {w : World}
theorem tst2x {P : Program} {base : Nat} {spare : Nat → Bool} {held : Bool} {t : TypeId} {f0 f1 : Field} {fuel : Nat} {cs : List Value} {x : DataW H × List MemPlace} (ht : P.underlying t = some (.struct #[f0, f1])) (h : DataW.trod enc P w base spare held fuel t cs = some x) :
    ∃ y0 y1 n, x.1 = .agg [y0.1, y1.1] ∧ cs.length = P.cellsOf t ∧ DataW.trod enc P w base spare held n f0.type ((cs.drop f0.offset).take (P.cellsOf f0.type)) = some y0 ∧
      DataW.trod enc P w base spare held n f1.type ((cs.drop f1.offset).take (P.cellsOf f1.type)) = some y1 := by
  obtain ⟨xs, n, _, rfl, hl, hlen, hf⟩ := DataW.trod_struct ht h
  match xs, hlen with
  | [y0, y1], _ => exact ⟨y0, y1, n, rfl, hl, by simpa using hf 0 f0 rfl, by simpa using hf 1 f1 rfl⟩
theorem c_step : Try.prog.cellsOf 58 = 2 := by kernel_rfl
theorem c_int : Try.prog.cellsOf 3 = 1 := by kernel_rfl
theorem step_arg {fuel : Nat} {cs : List Value} {x : DataW H × List MemPlace} (h : DataW.trod enc Try.prog w 0 (fun _ => true) true fuel 58 cs = some x) :
    ∃ s : StepD, cs = [.int .i64 s.at_, .int .i64 s.fr] := by
  obtain ⟨y0, y1, n, hx, hl, h0, h1⟩ := tst2x Try.underlying58 h
  rw [c_step] at hl
  match cs, hl with
  | [a0, a1], _ =>
    simp only [c_int, List.drop_zero, List.drop_succ_cons, List.take_succ_cons, List.take_zero] at h0 h1
    obtain ⟨n0, e0, _, _⟩ := DataW.trod_int Try.underlying3 h0
    obtain ⟨n1, e1, _, _⟩ := DataW.trod_int Try.underlying3 h1
    simp only [List.cons.injEq, and_true] at e0 e1
    subst e0 e1
    exact ⟨⟨n0, n1⟩, rfl⟩
theorem steps_arg {fuel : Nat} {v : Value} {x : DataW H × List MemPlace} (h : DataW.trod enc Try.prog w 0 (fun _ => true) true fuel 38 [v] = some x) :
    ∃ (A : Option Addr) (c : Nat) (l : List StepD), v = .slice A l.length c ∧ Stp w A c l := by
  rcases Go.Deep.open_slice Try.underlying38 h with ⟨hcs, hx⟩ | ⟨a, l, c, m, n, D, Pl, hcs, _, hl, hm, hmm, hx, hi⟩
  · simp at hcs
    subst hcs hx
    exact ⟨none, 0, [], rfl, Stp.empty _⟩
  · simp at hcs
    subst hcs
    simp only [if_true] at hmm
    have each : ∀ i, i < l → ∃ s : StepD, w.cell? (a.add (i * 2)) = some (.int .i64 s.at_) ∧ w.cell? (a.add (i * 2 + 1)) = some (.int .i64 s.fr) := by
      intro i hil
      obtain ⟨cs', h1, h2⟩ := hi i (by omega)
      rw [c_step] at h1
      obtain ⟨_, hcl, hat⟩ := World.cells?_some h1
      obtain ⟨s, rfl⟩ := step_arg h2
      simp only [Go.Deep.add_add] at hat
      exact ⟨s, hat 0 (by omega), hat 1 (by omega)⟩
    have H2 : ∀ j, j ≤ l → ∃ ts : List StepD, ts.length = j ∧ ∀ k s, ts[k]? = some s → w.cell? (a.add (k * 2)) = some (.int .i64 s.at_) ∧ w.cell? (a.add (k * 2 + 1)) = some (.int .i64 s.fr) := by
      intro j
      induction j with
      | zero => exact fun _ => ⟨[], rfl, fun k xs hx => by simp at hx⟩
      | succ j ih =>
        intro hj
        obtain ⟨ts, e1, e3⟩ := ih (by omega)
        obtain ⟨s, f⟩ := each j (by omega)
        refine ⟨ts ++ [s], by simp [e1], fun k ys hy => ?_⟩
        rcases Nat.lt_or_ge k j with hlt | hge
        · rw [List.getElem?_append_left (by omega)] at hy
          exact e3 k ys hy
        · rw [List.getElem?_append_right (by omega), e1] at hy
          have hk : k = j := by
            have := (List.getElem?_eq_some_iff.1 hy).1
            simp at this; omega
          subst hk
          simp at hy
          subst hy
          exact f
    obtain ⟨ts, e1, e3⟩ := H2 l (Nat.le_refl _)
    refine ⟨some a, c, ts, by rw [e1], ⟨fun k s hk => ?_, by omega, hm, fun e => by cases e⟩⟩
    obtain ⟨b, off, rfl⟩ : ∃ b off, a = ⟨b, off, none⟩ := by
      obtain ⟨s0, h0⟩ : ∃ s, ts[0]? = some s := ⟨_, List.getElem?_eq_getElem (Nat.lt_of_le_of_lt (Nat.zero_le _) (List.getElem?_eq_some_iff.1 hk).1)⟩
      obtain ⟨g0, _⟩ := e3 0 s0 h0
      obtain ⟨b, off, spot⟩ := a
      have hspot : spot = none := by simpa [Addr.add] using World.cell?_spot g0
      subst hspot
      exact ⟨b, off, rfl⟩
    obtain ⟨g0, g1⟩ := e3 k s hk
    simp only [Go.WideShapes.add_plain, ← Nat.add_assoc] at g0 g1
    exact ⟨b, off, rfl, g0, g1⟩
end
end Go.Proofs.Ytapojmniokdjfaa.Stp

