/- Arguments of layer 11: slices of things that are done; slots. -/
import Derived.Test.YtapojmniokdjfaaStpArg
import Derived.Test.YtapojmniokdjfaaBkKn
namespace Go.Proofs.Ytapojmniokdjfaa.Bk
open Go.ChangeShapes Go.WideShapes Go.ChangeAt Go.RowKit Go.Shelf Go.Lib
open Stp (tst2x c_int)
set_option linter.unusedVariables false
set_option maxRecDepth 100000
structure DoD where
  kd : Int
  s : SlotD
structure Dos (w : World) (A : Option Addr) (c : Nat) (l : List DoD) : Prop where
  cells : ∀ k d, l[k]? = some d → ∃ b off, A = some ⟨b, off, none⟩ ∧ w.cell? ⟨b, off + k * 5, none⟩ = some (.int .i64 d.kd) ∧ w.cell? ⟨b, off + k * 5 + 1, none⟩ = some (.int .i64 d.s.id) ∧ w.cell? ⟨b, off + k * 5 + 2, none⟩ = some (.int .i64 d.s.fm) ∧ w.cell? ⟨b, off + k * 5 + 3, none⟩ = some (.int .i64 d.s.to) ∧ w.cell? ⟨b, off + k * 5 + 4, none⟩ = some (.int .i64 d.s.nd)
  wf : ∀ d ∈ l, (Lit.int .i64 d.s.id).wf = true
  cap : l.length ≤ c
  top : c ≤ maxLen
theorem Dos.below {w w' : World} {A : Option Addr} {c : Nat} {l : List DoD} (h : Dos w A c l) (hb : Below w.heap.size w w') : Dos w' A c l := by
  refine ⟨fun k d hk => ?_, h.wf, h.cap, h.top⟩
  obtain ⟨b, off, e, h0, h1, h2, h3, h4⟩ := h.cells k d hk
  exact ⟨b, off, e, Stp.kp hb h0, Stp.kp hb h1, Stp.kp hb h2, Stp.kp hb h3, Stp.kp hb h4⟩
section
variable {H : Type} {enc : TypeId × Value → H} {w : World}
theorem tst4x {P : Program} {base : Nat} {spare : Nat → Bool} {held : Bool} {t : TypeId} {f0 f1 f2 f3 : Field} {fuel : Nat} {cs : List Value} {x : DataW H × List MemPlace} (ht : P.underlying t = some (.struct #[f0, f1, f2, f3])) (h : DataW.trod enc P w base spare held fuel t cs = some x) :
    ∃ y0 y1 y2 y3 n, cs.length = P.cellsOf t ∧ DataW.trod enc P w base spare held n f0.type ((cs.drop f0.offset).take (P.cellsOf f0.type)) = some y0 ∧
      DataW.trod enc P w base spare held n f1.type ((cs.drop f1.offset).take (P.cellsOf f1.type)) = some y1 ∧ DataW.trod enc P w base spare held n f2.type ((cs.drop f2.offset).take (P.cellsOf f2.type)) = some y2 ∧ DataW.trod enc P w base spare held n f3.type ((cs.drop f3.offset).take (P.cellsOf f3.type)) = some y3 := by
  obtain ⟨xs, n, _, rfl, hl, hlen, hf⟩ := DataW.trod_struct ht h
  match xs, hlen with
  | [y0, y1, y2, y3], _ => exact ⟨y0, y1, y2, y3, n, hl, by simpa using hf 0 f0 rfl, by simpa using hf 1 f1 rfl, by simpa using hf 2 f2 rfl, by simpa using hf 3 f3 rfl⟩
theorem c_slot : Try.prog.cellsOf 32 = 4 := by kernel_rfl
theorem c_do : Try.prog.cellsOf 34 = 5 := by kernel_rfl
theorem slot_arg {fuel : Nat} {cs : List Value} {x : DataW H × List MemPlace} (h : DataW.trod enc Try.prog w 0 (fun _ => true) true fuel 32 cs = some x) :
    ∃ s : SlotD, cs = [.int .i64 s.id, .int .i64 s.fm, .int .i64 s.to, .int .i64 s.nd] ∧ (Lit.int .i64 s.id).wf = true := by
  obtain ⟨y0, y1, y2, y3, n, hl, h0, h1, h2, h3⟩ := tst4x Try.underlying32 h
  rw [c_slot] at hl
  match cs, hl with
  | [a0, a1, a2, a3], _ =>
    simp only [c_int, List.drop_zero, List.drop_succ_cons, List.take_succ_cons, List.take_zero] at h0 h1 h2 h3
    obtain ⟨n0, e0, _, w0⟩ := DataW.trod_int Try.underlying3 h0
    obtain ⟨n1, e1, _, _⟩ := DataW.trod_int Try.underlying3 h1
    obtain ⟨n2, e2, _, _⟩ := DataW.trod_int Try.underlying3 h2
    obtain ⟨n3, e3, _, _⟩ := DataW.trod_int Try.underlying3 h3
    simp only [List.cons.injEq, and_true] at e0 e1 e2 e3
    subst e0 e1 e2 e3
    exact ⟨⟨n0, n1, n2, n3⟩, rfl, w0⟩
theorem do_arg {fuel : Nat} {cs : List Value} {x : DataW H × List MemPlace} (h : DataW.trod enc Try.prog w 0 (fun _ => true) true fuel 34 cs = some x) :
    ∃ d : DoD, cs = [.int .i64 d.kd, .int .i64 d.s.id, .int .i64 d.s.fm, .int .i64 d.s.to, .int .i64 d.s.nd] ∧ (Lit.int .i64 d.s.id).wf = true := by
  obtain ⟨y0, y1, n, hx, hl, h0, h1⟩ := tst2x Try.underlying34 h
  rw [c_do] at hl
  match cs, hl with
  | [a0, a1, a2, a3, a4], _ =>
    simp only [c_int, c_slot, List.drop_zero, List.drop_succ_cons, List.take_succ_cons, List.take_zero] at h0 h1
    obtain ⟨n0, e0, _, _⟩ := DataW.trod_int Try.underlying3 h0
    obtain ⟨s, e1, w1⟩ := slot_arg h1
    simp only [List.cons.injEq, and_true] at e0 e1
    obtain ⟨rfl, rfl, rfl, rfl⟩ := e1
    subst e0
    exact ⟨⟨n0, s⟩, rfl, w1⟩
theorem dos_arg {fuel : Nat} {v : Value} {x : DataW H × List MemPlace} (h : DataW.trod enc Try.prog w 0 (fun _ => true) true fuel 22 [v] = some x) :
    ∃ (A : Option Addr) (c : Nat) (l : List DoD), v = .slice A l.length c ∧ Dos w A c l := by
  rcases Go.Deep.open_slice Try.underlying22 h with ⟨hcs, hx⟩ | ⟨a, l, c, m, n, D, Pl, hcs, _, hl, hm, hmm, hx, hi⟩
  · simp at hcs
    subst hcs hx
    exact ⟨none, 0, [], rfl, ⟨fun k d hk => (by simp at hk), fun d hd => (by cases hd), Nat.le_refl _, Nat.zero_le _⟩⟩
  · simp at hcs
    subst hcs
    simp only [if_true] at hmm
    have each : ∀ i, i < l → ∃ d : DoD, (w.cell? (a.add (i * 5)) = some (.int .i64 d.kd) ∧ w.cell? (a.add (i * 5 + 1)) = some (.int .i64 d.s.id) ∧ w.cell? (a.add (i * 5 + 2)) = some (.int .i64 d.s.fm) ∧ w.cell? (a.add (i * 5 + 3)) = some (.int .i64 d.s.to) ∧ w.cell? (a.add (i * 5 + 4)) = some (.int .i64 d.s.nd)) ∧ (Lit.int .i64 d.s.id).wf = true := by
      intro i hil
      obtain ⟨cs', h1, h2⟩ := hi i (by omega)
      rw [c_do] at h1
      obtain ⟨_, hcl, hat⟩ := World.cells?_some h1
      obtain ⟨d, rfl, hw⟩ := do_arg h2
      simp only [Go.Deep.add_add] at hat
      exact ⟨d, ⟨hat 0 (by omega), hat 1 (by omega), hat 2 (by omega), hat 3 (by omega), hat 4 (by omega)⟩, hw⟩
    have H2 : ∀ j, j ≤ l → ∃ ts : List DoD, ts.length = j ∧ (∀ d ∈ ts, (Lit.int .i64 d.s.id).wf = true) ∧ ∀ k d, ts[k]? = some d → w.cell? (a.add (k * 5)) = some (.int .i64 d.kd) ∧ w.cell? (a.add (k * 5 + 1)) = some (.int .i64 d.s.id) ∧ w.cell? (a.add (k * 5 + 2)) = some (.int .i64 d.s.fm) ∧ w.cell? (a.add (k * 5 + 3)) = some (.int .i64 d.s.to) ∧ w.cell? (a.add (k * 5 + 4)) = some (.int .i64 d.s.nd) := by
      intro j
      induction j with
      | zero => exact fun _ => ⟨[], rfl, fun d hd => (by cases hd), fun k xs hx => by simp at hx⟩
      | succ j ih =>
        intro hj
        obtain ⟨ts, e1, e2, e3⟩ := ih (by omega)
        obtain ⟨d, f, hw⟩ := each j (by omega)
        refine ⟨ts ++ [d], by simp [e1], fun u hu => ?_, fun k ys hy => ?_⟩
        · rcases List.mem_append.1 hu with q | q
          · exact e2 u q
          · simp at q; subst q; exact hw
        · rcases Nat.lt_or_ge k j with hlt | hge
          · rw [List.getElem?_append_left (by omega)] at hy
            exact e3 k ys hy
          · rw [List.getElem?_append_right (by omega), e1] at hy
            have hk : k = j := by
              have := (List.getElem?_eq_some_iff.1 hy).1
              simp at this; omega
            subst hk
            simp at hy
            subst hy
            exact f
    obtain ⟨ts, e1, e2, e3⟩ := H2 l (Nat.le_refl _)
    refine ⟨some a, c, ts, by rw [e1], ⟨fun k s hk => ?_, e2, by omega, hm⟩⟩
    obtain ⟨b, off, rfl⟩ : ∃ b off, a = ⟨b, off, none⟩ := by
      obtain ⟨s0, h0⟩ : ∃ s, ts[0]? = some s := ⟨_, List.getElem?_eq_getElem (Nat.lt_of_le_of_lt (Nat.zero_le _) (List.getElem?_eq_some_iff.1 hk).1)⟩
      obtain ⟨g0, _⟩ := e3 0 s0 h0
      obtain ⟨b, off, spot⟩ := a
      have hspot : spot = none := by simpa [Addr.add] using World.cell?_spot g0
      subst hspot
      exact ⟨b, off, rfl⟩
    obtain ⟨g0, g1, g2, g3, g4⟩ := e3 k s hk
    simp only [Go.WideShapes.add_plain, ← Nat.add_assoc] at g0 g1 g2 g3 g4
    exact ⟨b, off, rfl, g0, g1, g2, g3, g4⟩
end
end Go.Proofs.Ytapojmniokdjfaa.Bk

