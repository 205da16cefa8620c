/- Arguments that are workflows, under the bound of the second form. -/
import Derived.Test.YtdcfakbelnpljaaGreatDoorFlwTabs
namespace Go.Proofs.YtdcfakbelnpljaaGreatDoor
open Go.ChangeShapes Go.WideShapes Go.ChangeAt Go.RowKit Go.Shelf Go.Lib
open Dag (Ints ints ints_len ints_get')
set_option linter.unusedVariables false
set_option maxRecDepth 100000

section
variable {H : Type} {enc : TypeId × Value → H} {w : World}
theorem bulk_mem {d : DataW H} {l : List (DataW H)} (h : d ∈ l) : Rows.uptoBulk d ≤ Rows.uptoBulkAll l := by
  induction l with
  | nil => cases h
  | cons x l ih =>
    simp only [Rows.uptoBulkAll]
    rcases List.mem_cons.1 h with rfl | h
    · omega
    · have := ih h; omega
theorem bulk_pos (d : DataW H) : 1 ≤ Rows.uptoBulk d := by
  cases d with
  | lit l => cases l <;> simp [Rows.uptoBulk]
  | _ => simp [Rows.uptoBulk]
theorem bulk_len : ∀ l : List (DataW H), l.length ≤ Rows.uptoBulkAll l
  | [] => Nat.zero_le _
  | d :: l => by
    have h1 := bulk_pos d
    have h2 := bulk_len l
    simp only [Rows.uptoBulkAll, List.length_cons]; omega
theorem ints_argU {fuel : Nat} {v : Value} {x : DataW H × List MemPlace} (h : DataW.trod enc Tryz.prog w 0 (fun _ => true) true fuel 55 [v] = some x) :
    ∃ (A : Option Addr) (c : Nat) (xs : List Int), v = .slice A xs.length c ∧ Ints w A c xs ∧ (∀ N, Rows.uptoBulk x.1 ≤ N → xs.length ≤ N) := by
  rcases open_ints Tryz.underlying55 Tryz.underlying3 (by kernel_rfl) h with ⟨hcs, hx⟩ | ⟨a, l, c, zs, hcs, _, hl, hm, hz, hx, hcell, hwz⟩
  · simp at hcs
    subst hcs hx
    exact ⟨none, 0, [], rfl, Dag.Sl.empty _, fun _ _ => Nat.zero_le _⟩
  · simp at hcs
    subst hcs
    simp only [if_true] at hz
    have hlen : (zs.take l).length = l := by rw [List.length_take]; omega
    refine ⟨some a, c, zs.take l, by rw [hlen], ⟨fun k u hu => ?_, by rw [ints_len]; omega, hm, fun e => by cases e⟩, fun N hs => ?_⟩
    · obtain ⟨y, hy, rfl⟩ := ints_get' hu
      have hk : k < zs.length := by
        have := (List.getElem?_eq_some_iff.1 hy).1
        rw [List.length_take] at this
        omega
      obtain ⟨b, off, rfl, hc⟩ := ints_at hcell (by omega)
      have h1 := hc k hk
      have e : zs.getD k 0 = y := by
        rw [List.getElem?_take] at hy
        split at hy
        · rw [List.getD_eq_getElem?_getD, hy]; rfl
        · cases hy
      rw [e] at h1
      exact ⟨b, off, rfl, h1⟩
    · rw [hx] at hs
      simp only [Rows.uptoBulk] at hs
      have := bulk_len (lits (H := H) .i64 (zs.take l))
      rw [lits, List.length_map] at this
      simp only [lits] at hs
      omega

theorem task_argU {fuel : Nat} {cs : List Value} {x : DataW H × List MemPlace} (h : DataW.trod enc Tryz.prog w 0 (fun _ => true) true fuel 57 cs = some x) :
    ∃ (t : TaskD) (A : Option Addr) (c : Nat), cs = [.string (sb t.name), .int .i64 t.nodes, .int .i64 t.wall, .int .i64 t.retry, .bool t.done, .slice A t.after.length c] ∧ Ints w A c t.after ∧ t.name.length ≤ maxLen ∧ (∀ N, Rows.uptoBulk x.1 ≤ N → t.name.length ≤ N ∧ t.after.length ≤ N) := by
  obtain ⟨y0, y1, y2, y3, y4, y5, n, hx, hl, h0, h1, h2, h3, h4, h5⟩ := tst6x Tryz.underlying57 h
  rw [c_task] at hl
  match cs, hl with
  | [a0, a1, a2, a3, a4, a5], _ =>
    simp only [c_string, c_int, c_bool, c_ints, List.drop_zero, List.drop_succ_cons, List.take_succ_cons, List.take_zero] at h0 h1 h2 h3 h4 h5
    obtain ⟨s, e0, f0, hs⟩ := DataW.trod_string Tryz.underlying9 h0
    obtain ⟨n1, e1, _, _⟩ := DataW.trod_int Tryz.underlying3 h1
    obtain ⟨n2, e2, _, _⟩ := DataW.trod_int Tryz.underlying3 h2
    obtain ⟨n3, e3, _, _⟩ := DataW.trod_int Tryz.underlying3 h3
    obtain ⟨b4, e4, _⟩ := DataW.trod_bool Tryz.underlying4 h4
    obtain ⟨A, c, xs, e5, hi, hxs⟩ := ints_argU h5
    simp only [List.cons.injEq, and_true] at e0 e1 e2 e3 e4
    subst e0 e1 e2 e3 e4 e5
    refine ⟨⟨s.data.toList, n1, n2, n3, b4, xs⟩, A, c, by rw [sb_data], hi, by rw [show s.data.toList.length = s.size from Array.length_toList]; exact hs, fun N hz => ?_⟩
    rw [hx] at hz
    simp only [Rows.uptoBulk, Rows.uptoBulkAll, f0] at hz
    exact ⟨by show s.data.toList.length ≤ N; omega, hxs N (by omega)⟩
theorem tasks_argU {fuel : Nat} {v : Value} {x : DataW H × List MemPlace} (h : DataW.trod enc Tryz.prog w 0 (fun _ => true) true fuel 23 [v] = some x) :
    ∃ (A : Option Addr) (c : Nat) (ts : List TaskD), v = .slice A ts.length c ∧ Tasks w A c ts ∧ (∀ N, Rows.uptoBulk x.1 ≤ N → ∀ t ∈ ts, t.name.length ≤ N ∧ t.after.length ≤ N) := by
  rcases Go.Deep.open_slice Tryz.underlying23 h with ⟨hcs, hx⟩ | ⟨a, l, c, m, n, D, Pl, hcs, _, hl, hm, hmm, hx, hi⟩
  · simp at hcs
    subst hcs hx
    exact ⟨none, 0, [], rfl, Tasks.empty _, fun _ _ t ht => by cases ht⟩
  · simp at hcs
    subst hcs
    simp only [if_true] at hmm
    have each : ∀ i, i < l → ∃ (t : TaskD) (A' : Option Addr) (c' : Nat), w.cell? (a.add (i * 6)) = some (.string (sb t.name)) ∧ w.cell? (a.add (i * 6 + 1)) = some (.int .i64 t.nodes) ∧ w.cell? (a.add (i * 6 + 2)) = some (.int .i64 t.wall) ∧
        w.cell? (a.add (i * 6 + 3)) = some (.int .i64 t.retry) ∧ w.cell? (a.add (i * 6 + 4)) = some (.bool t.done) ∧ w.cell? (a.add (i * 6 + 5)) = some (.slice A' t.after.length c') ∧ Ints w A' c' t.after ∧ t.name.length ≤ maxLen ∧ (∀ N, Rows.uptoBulk (D i) ≤ N → t.name.length ≤ N ∧ t.after.length ≤ N) := by
      intro i hil
      obtain ⟨cs', h1, h2⟩ := hi i (by omega)
      rw [c_task] at h1
      obtain ⟨_, hcl, hat⟩ := World.cells?_some h1
      obtain ⟨t, A', c', rfl, hI, hn, hz⟩ := task_argU h2
      simp only [Go.Deep.add_add] at hat
      exact ⟨t, A', c', hat 0 (by omega), hat 1 (by omega), hat 2 (by omega), hat 3 (by omega), hat 4 (by omega), hat 5 (by omega), hI, hn, hz⟩
    have H2 : ∀ j, j ≤ l → ∃ ts : List TaskD, ts.length = j ∧ ∀ k t, ts[k]? = some t → ∃ (A' : Option Addr) (c' : Nat), w.cell? (a.add (k * 6)) = some (.string (sb t.name)) ∧ w.cell? (a.add (k * 6 + 1)) = some (.int .i64 t.nodes) ∧ w.cell? (a.add (k * 6 + 2)) = some (.int .i64 t.wall) ∧
        w.cell? (a.add (k * 6 + 3)) = some (.int .i64 t.retry) ∧ w.cell? (a.add (k * 6 + 4)) = some (.bool t.done) ∧ w.cell? (a.add (k * 6 + 5)) = some (.slice A' t.after.length c') ∧ Ints w A' c' t.after ∧ t.name.length ≤ maxLen ∧ (∀ N, Rows.uptoBulk (D k) ≤ N → t.name.length ≤ N ∧ t.after.length ≤ N) := by
      intro j
      induction j with
      | zero => exact fun _ => ⟨[], rfl, fun k xs hx => by simp at hx⟩
      | succ j ih =>
        intro hj
        obtain ⟨ts, e1, e3⟩ := ih (by omega)
        obtain ⟨t, A', c', f⟩ := each j (by omega)
        refine ⟨ts ++ [t], by simp [e1], fun k ys hy => ?_⟩
        rcases Nat.lt_or_ge k j with hlt | hge
        · rw [List.getElem?_append_left (by omega)] at hy
          exact e3 k ys hy
        · rw [List.getElem?_append_right (by omega), e1] at hy
          have hk : k = j := by
            have := (List.getElem?_eq_some_iff.1 hy).1
            simp at this; omega
          subst hk
          simp at hy
          subst hy
          exact ⟨A', c', f⟩
    obtain ⟨ts, e1, e3⟩ := H2 l (Nat.le_refl _)
    have spot : ∀ k t, ts[k]? = some t → ∃ b off, a = ⟨b, off, none⟩ := fun k t hk => by
      obtain ⟨t0, h0⟩ : ∃ t, ts[0]? = some t := ⟨_, List.getElem?_eq_getElem (Nat.lt_of_le_of_lt (Nat.zero_le _) (List.getElem?_eq_some_iff.1 hk).1)⟩
      obtain ⟨A', c', g0, _⟩ := e3 0 t0 h0
      obtain ⟨b, off, spot⟩ := a
      have hspot : spot = none := by simpa [Addr.add] using World.cell?_spot g0
      subst hspot
      exact ⟨b, off, rfl⟩
    refine ⟨some a, c, ts, by rw [e1], ⟨fun k t hk => ?_, by omega, hm, (fun e => by cases e), fun t ht => ?_⟩, fun N hz t ht => ?_⟩
    · obtain ⟨b, off, rfl⟩ := spot k t hk
      obtain ⟨A', c', g0, g1, g2, g3, g4, g5, gi, gn, _⟩ := e3 k t hk
      simp only [Go.WideShapes.add_plain, ← Nat.add_assoc] at g0 g1 g2 g3 g4 g5
      exact ⟨b, off, A', c', rfl, g0, g1, g2, g3, g4, g5, gi⟩
    · obtain ⟨k, hk⟩ := List.getElem?_of_mem ht
      obtain ⟨A', c', g0, g1, g2, g3, g4, g5, gi, gn, _⟩ := e3 k t hk
      exact gn
    · obtain ⟨k, hk⟩ := List.getElem?_of_mem ht
      obtain ⟨A', c', g0, g1, g2, g3, g4, g5, gi, gn, gz⟩ := e3 k t hk
      refine gz N ?_
      rw [hx] at hz
      simp only [Rows.uptoBulk] at hz
      have hkl := (List.getElem?_eq_some_iff.1 hk).1
      have := bulk_mem (List.mem_map.2 ⟨k, List.mem_range.2 (show k < l by omega), rfl⟩ : D k ∈ (List.range l).map D)
      omega
theorem flow_argU {fuel : Nat} {cs : List Value} {x : DataW H × List MemPlace} (h : DataW.trod enc Tryz.prog w 0 (fun _ => true) true fuel 25 cs = some x) :
    ∃ (f : FlowD) (A : Option Addr) (c : Nat), cs = [.string (sb f.name), .int .i64 f.deadline, .int .i64 f.priority, .slice A f.tasks.length c] ∧ Tasks w A c f.tasks ∧ (∀ N, Rows.uptoBulk x.1 ≤ N → f.name.length ≤ N ∧ ∀ t ∈ f.tasks, t.name.length ≤ N ∧ t.after.length ≤ N) := by
  obtain ⟨y0, y1, y2, y3, n, hx, hl, h0, h1, h2, h3⟩ := tst4x Tryz.underlying25 h
  rw [c_flow] at hl
  match cs, hl with
  | [a0, a1, a2, a3], _ =>
    simp only [c_string, c_int, c_tasks, List.drop_zero, List.drop_succ_cons, List.take_succ_cons, List.take_zero] at h0 h1 h2 h3
    obtain ⟨s, e0, f0, hs⟩ := DataW.trod_string Tryz.underlying9 h0
    obtain ⟨n1, e1, _, _⟩ := DataW.trod_int Tryz.underlying3 h1
    obtain ⟨n2, e2, _, _⟩ := DataW.trod_int Tryz.underlying3 h2
    obtain ⟨A, c, ts, e3, hi, hts⟩ := tasks_argU h3
    simp only [List.cons.injEq, and_true] at e0 e1 e2
    subst e0 e1 e2 e3
    refine ⟨⟨s.data.toList, n1, n2, ts⟩, A, c, by rw [sb_data], hi, fun N hz => ?_⟩
    rw [hx] at hz
    simp only [Rows.uptoBulk, Rows.uptoBulkAll, f0] at hz
    exact ⟨by show s.data.toList.length ≤ N; omega, hts N (by omega)⟩
end

end Go.Proofs.YtdcfakbelnpljaaGreatDoor
