/- What the chapter's example fixes: known. -/
import Derived.Test.YtkicanegjkemoaaDoorFlwTel
import Derived.Test.YtkicanegjkemoaaDoorRows
import Derived.Deep.Slices
import Derived.SizedLaws
import Derived.Lib.LaidU8T
import Derived.Lib.LaidTab
import Derived.Lay
import Derived.PinnedBridge
namespace Go.Proofs.YtkicanegjkemoaaDoor
open Go.RowKit
set_option linter.unusedVariables false
set_option maxRecDepth 100000

def kt1 : List UInt8 := [119, 111, 114, 107, 102, 108, 111, 119, 32, 119, 10, 74, 79, 66, 32, 98, 10, 106, 111, 98, 32, 97, 10, 112, 97, 114, 101, 110, 116, 32, 98, 32, 99, 104, 105, 108, 100, 32, 97]
def kt2 : List UInt8 := [87, 79, 82, 75, 70, 76, 79, 87, 32, 119, 10, 74, 79, 66, 32, 98, 10, 74, 79, 66, 32, 97, 10, 80, 65, 82, 69, 78, 84, 32, 98, 32, 67, 72, 73, 76, 68, 32, 97, 10]
def kt3 : List UInt8 := [87, 79, 82, 75, 70, 76, 79, 87, 32, 119, 10, 74, 79, 66, 32, 97, 10, 74, 79, 66, 32, 97]
def kf : FlowD := ⟨[119], 0, 0, [⟨[98], 1, 1, 0, false, []⟩, ⟨[97], 1, 1, 0, false, [0]⟩]⟩
theorem k1 : parseD kt1 = (kf, 0, 0) := by kernel_rfl
theorem k2 : checkE kf = 0 := by kernel_rfl
theorem k3 : printL kf = kt2 := by kernel_rfl
theorem k4 : parseD kt3 = (noFlow, 3, 51) := by kernel_rfl

/-- the tables that the rows list -/
structure Tb3 (w : World) : Prop where
  txt : Txt.Tabs w
  st : TabS w
  dag : Dag.Tab w
theorem Tb3.below {w w' : World} (h : Tb3 w) (hb : Below w.heap.size w w') : Tb3 w' := ⟨h.txt.below hb, h.st.below hb, h.dag.below hb h.dag.lt⟩
theorem dagTab_mono (w w' : World) (h : Dag.Tab w) (hb : Below w.heap.size w w') : Dag.Tab w' := h.below hb h.lt
theorem check_all (f : FlowD) (A : Option Addr) (c : Nat) (w : World) (h : Tasks w A c f.tasks) (hT : Tb3 w) (hl : f.name.length ≤ 9000000000000000000) (hn : ∀ t ∈ f.tasks, t.name.length ≤ 9000000000000000000) :
    Calls Tryd.prog 29 #[.agg #[.string (sb f.name), .int .i64 f.deadline, .int .i64 f.priority, .slice A f.tasks.length c]] w fun e w' => e = .returned (.int .i64 (checkE f)) ∧ Below w.heap.size w w' :=
  check_any 4096 Dag.Tab newOK dagTab_mono f A c w h hT.txt hT.st hT.dag hl hn fun h => h
end Go.Proofs.YtkicanegjkemoaaDoor

/- Arguments that are workflows, lists of texts: what they hold; the tables that the rows list. -/
namespace Go.Proofs.YtkicanegjkemoaaDoor
open Go.ChangeShapes Go.WideShapes Go.ChangeAt Go.RowKit Go.Shelf Go.Lib
open Dag (Ints ints ints_len ints_get')
set_option linter.unusedVariables false
set_option maxRecDepth 100000

def Sz {H : Type} (t : TypeId) (d : DataW H) : Prop := (d.weights Tryd.prog t).all (· ≤ reachBytes) = true
def reachN : Nat := 140737488351232
theorem reach_eq : reachBytes = reachN := rfl
section
variable {H : Type} {enc : TypeId × Value → H} {w : World}
theorem ints_arg {fuel : Nat} {v : Value} {x : DataW H × List MemPlace} (h : DataW.trod enc Tryd.prog w 0 (fun _ => true) true fuel 41 [v] = some x) :
    ∃ (A : Option Addr) (c : Nat) (xs : List Int), v = .slice A xs.length c ∧ Ints w A c xs ∧ (Sz 41 x.1 → xs.length ≤ reachN) := by
  rcases open_ints Tryd.underlying41 Tryd.underlying3 (by kernel_rfl) h with ⟨hcs, hx⟩ | ⟨a, l, c, zs, hcs, _, hl, hm, hz, hx, hcell, hwz⟩
  · simp at hcs
    subst hcs hx
    exact ⟨none, 0, [], rfl, Dag.Sl.empty _, fun _ => Nat.zero_le _⟩
  · simp at hcs
    subst hcs
    simp only [if_true] at hz
    have hlen : (zs.take l).length = l := by rw [List.length_take]; omega
    refine ⟨some a, c, zs.take l, by rw [hlen], ⟨fun k u hu => ?_, by rw [ints_len]; omega, hm, fun e => by cases e⟩, fun hs => ?_⟩
    · obtain ⟨y, hy, rfl⟩ := ints_get' hu
      have hk : k < zs.length := by
        have := (List.getElem?_eq_some_iff.1 hy).1
        rw [List.length_take] at this
        omega
      obtain ⟨b, off, rfl, hc⟩ := ints_at hcell (by omega)
      have h1 := hc k hk
      have e : zs.getD k 0 = y := by
        rw [List.getElem?_take] at hy
        split at hy
        · rw [List.getD_eq_getElem?_getD, hy]; rfl
        · cases hy
      rw [e] at h1
      exact ⟨b, off, rfl, h1⟩
    · rw [hlen]
      unfold Sz at hs
      rw [hx] at hs
      have hb : Tryd.prog.bytesOf 3 = 8 := by kernel_rfl
      simp only [DataW.weights, Tryd.underlying41, List.all_cons, Bool.and_eq_true, hb] at hs
      have := of_decide_eq_true hs.1
      simp [lits] at this
      rw [reach_eq] at this
      omega

theorem tst4x {P : Program} {base : Nat} {spare : Nat → Bool} {held : Bool} {t : TypeId} {f0 f1 f2 f3 : Field} {fuel : Nat} {cs : List Value} {x : DataW H × List MemPlace} (ht : P.underlying t = some (.struct #[f0, f1, f2, f3])) (h : DataW.trod enc P w base spare held fuel t cs = some x) :
    ∃ y0 y1 y2 y3 n, x.1 = .agg [y0.1, y1.1, y2.1, y3.1] ∧ cs.length = P.cellsOf t ∧ DataW.trod enc P w base spare held n f0.type ((cs.drop f0.offset).take (P.cellsOf f0.type)) = some y0 ∧
      DataW.trod enc P w base spare held n f1.type ((cs.drop f1.offset).take (P.cellsOf f1.type)) = some y1 ∧ DataW.trod enc P w base spare held n f2.type ((cs.drop f2.offset).take (P.cellsOf f2.type)) = some y2 ∧
      DataW.trod enc P w base spare held n f3.type ((cs.drop f3.offset).take (P.cellsOf f3.type)) = some y3 := by
  obtain ⟨xs, n, _, rfl, hl, hlen, hf⟩ := DataW.trod_struct ht h
  match xs, hlen with
  | [y0, y1, y2, y3], _ => exact ⟨y0, y1, y2, y3, n, rfl, hl, by simpa using hf 0 f0 rfl, by simpa using hf 1 f1 rfl, by simpa using hf 2 f2 rfl, by simpa using hf 3 f3 rfl⟩
theorem tst6x {P : Program} {base : Nat} {spare : Nat → Bool} {held : Bool} {t : TypeId} {f0 f1 f2 f3 f4 f5 : Field} {fuel : Nat} {cs : List Value} {x : DataW H × List MemPlace} (ht : P.underlying t = some (.struct #[f0, f1, f2, f3, f4, f5])) (h : DataW.trod enc P w base spare held fuel t cs = some x) :
    ∃ y0 y1 y2 y3 y4 y5 n, x.1 = .agg [y0.1, y1.1, y2.1, y3.1, y4.1, y5.1] ∧ cs.length = P.cellsOf t ∧ DataW.trod enc P w base spare held n f0.type ((cs.drop f0.offset).take (P.cellsOf f0.type)) = some y0 ∧
      DataW.trod enc P w base spare held n f1.type ((cs.drop f1.offset).take (P.cellsOf f1.type)) = some y1 ∧ DataW.trod enc P w base spare held n f2.type ((cs.drop f2.offset).take (P.cellsOf f2.type)) = some y2 ∧
      DataW.trod enc P w base spare held n f3.type ((cs.drop f3.offset).take (P.cellsOf f3.type)) = some y3 ∧ DataW.trod enc P w base spare held n f4.type ((cs.drop f4.offset).take (P.cellsOf f4.type)) = some y4 ∧
      DataW.trod enc P w base spare held n f5.type ((cs.drop f5.offset).take (P.cellsOf f5.type)) = some y5 := by
  obtain ⟨xs, n, _, rfl, hl, hlen, hf⟩ := DataW.trod_struct ht h
  match xs, hlen with
  | [y0, y1, y2, y3, y4, y5], _ => exact ⟨y0, y1, y2, y3, y4, y5, n, rfl, hl, by simpa using hf 0 f0 rfl, by simpa using hf 1 f1 rfl, by simpa using hf 2 f2 rfl, by simpa using hf 3 f3 rfl, by simpa using hf 4 f4 rfl, by simpa using hf 5 f5 rfl⟩

theorem c_task : Tryd.prog.cellsOf 43 = 6 := by kernel_rfl
theorem c_flow : Tryd.prog.cellsOf 24 = 4 := by kernel_rfl
theorem c_string : Tryd.prog.cellsOf 9 = 1 := by kernel_rfl
theorem c_int : Tryd.prog.cellsOf 3 = 1 := by kernel_rfl
theorem c_bool : Tryd.prog.cellsOf 4 = 1 := by kernel_rfl
theorem c_ints : Tryd.prog.cellsOf 41 = 1 := by kernel_rfl
theorem c_tasks : Tryd.prog.cellsOf 22 = 1 := by kernel_rfl
theorem lit_sz {s : ByteArray} (h : Sz (H := H) 9 (.lit (.string s.data.toList))) : s.data.toList.length ≤ reachN := by
  unfold Sz at h
  simp only [DataW.weights, List.all_cons, List.all_nil, Bool.and_true] at h
  have := of_decide_eq_true h
  rwa [reach_eq] at this
/-- one task's six cells -/
theorem task_arg {fuel : Nat} {cs : List Value} {x : DataW H × List MemPlace} (h : DataW.trod enc Tryd.prog w 0 (fun _ => true) true fuel 43 cs = some x) :
    ∃ (t : TaskD) (A : Option Addr) (c : Nat), cs = [.string (sb t.name), .int .i64 t.nodes, .int .i64 t.wall, .int .i64 t.retry, .bool t.done, .slice A t.after.length c] ∧ Ints w A c t.after ∧ t.name.length ≤ maxLen ∧ (Sz 43 x.1 → t.name.length ≤ reachN ∧ t.after.length ≤ reachN) := by
  obtain ⟨y0, y1, y2, y3, y4, y5, n, hx, hl, h0, h1, h2, h3, h4, h5⟩ := tst6x Tryd.underlying43 h
  rw [c_task] at hl
  match cs, hl with
  | [a0, a1, a2, a3, a4, a5], _ =>
    simp only [c_string, c_int, c_bool, c_ints, List.drop_zero, List.drop_succ_cons, List.take_succ_cons, List.take_zero] at h0 h1 h2 h3 h4 h5
    obtain ⟨s, e0, f0, hs⟩ := DataW.trod_string Tryd.underlying9 h0
    obtain ⟨n1, e1, _, _⟩ := DataW.trod_int Tryd.underlying3 h1
    obtain ⟨n2, e2, _, _⟩ := DataW.trod_int Tryd.underlying3 h2
    obtain ⟨n3, e3, _, _⟩ := DataW.trod_int Tryd.underlying3 h3
    obtain ⟨b4, e4, _⟩ := DataW.trod_bool Tryd.underlying4 h4
    obtain ⟨A, c, xs, e5, hi, hxs⟩ := ints_arg h5
    simp only [List.cons.injEq, and_true] at e0 e1 e2 e3 e4
    subst e0 e1 e2 e3 e4 e5
    refine ⟨⟨s.data.toList, n1, n2, n3, b4, xs⟩, A, c, by rw [sb_data], hi, by rw [show s.data.toList.length = s.size from Array.length_toList]; exact hs, fun hz => ?_⟩
    unfold Sz at hz
    rw [hx] at hz
    simp only [DataW.weights, Tryd.underlying43, List.map_cons, List.map_nil, DataW.weightsEach, List.all_append, Bool.and_eq_true] at hz
    obtain ⟨z0, _, _, _, _, z5, _⟩ := hz
    rw [f0] at z0
    exact ⟨lit_sz z0, hxs z5⟩
theorem all_at {p : Nat → Bool} {e : TypeId} {l : List (DataW H)} {d : DataW H} (h : (DataW.weightsAll Tryd.prog e l).all p = true) (hd : d ∈ l) : (d.weights Tryd.prog e).all p = true := by
  induction l with
  | nil => cases hd
  | cons x l ih =>
    rw [DataW.weightsAll, List.all_append, Bool.and_eq_true] at h
    rcases List.mem_cons.1 hd with rfl | hd
    · exact h.1
    · exact ih h.2 hd
theorem tasks_arg {fuel : Nat} {v : Value} {x : DataW H × List MemPlace} (h : DataW.trod enc Tryd.prog w 0 (fun _ => true) true fuel 22 [v] = some x) :
    ∃ (A : Option Addr) (c : Nat) (ts : List TaskD), v = .slice A ts.length c ∧ Tasks w A c ts ∧ (Sz 22 x.1 → ∀ t ∈ ts, t.name.length ≤ reachN ∧ t.after.length ≤ reachN) := by
  rcases Go.Deep.open_slice Tryd.underlying22 h with ⟨hcs, hx⟩ | ⟨a, l, c, m, n, D, Pl, hcs, _, hl, hm, hmm, hx, hi⟩
  · simp at hcs
    subst hcs hx
    exact ⟨none, 0, [], rfl, Tasks.empty _, fun _ t ht => by cases ht⟩
  · simp at hcs
    subst hcs
    simp only [if_true] at hmm
    have each : ∀ i, i < l → ∃ (t : TaskD) (A' : Option Addr) (c' : Nat), w.cell? (a.add (i * 6)) = some (.string (sb t.name)) ∧ w.cell? (a.add (i * 6 + 1)) = some (.int .i64 t.nodes) ∧ w.cell? (a.add (i * 6 + 2)) = some (.int .i64 t.wall) ∧
        w.cell? (a.add (i * 6 + 3)) = some (.int .i64 t.retry) ∧ w.cell? (a.add (i * 6 + 4)) = some (.bool t.done) ∧ w.cell? (a.add (i * 6 + 5)) = some (.slice A' t.after.length c') ∧ Ints w A' c' t.after ∧ t.name.length ≤ maxLen ∧ (Sz 43 (D i) → t.name.length ≤ reachN ∧ t.after.length ≤ reachN) := by
      intro i hil
      obtain ⟨cs', h1, h2⟩ := hi i (by omega)
      rw [c_task] at h1
      obtain ⟨_, hcl, hat⟩ := World.cells?_some h1
      obtain ⟨t, A', c', rfl, hI, hn, hz⟩ := task_arg h2
      simp only [Go.Deep.add_add] at hat
      exact ⟨t, A', c', hat 0 (by omega), hat 1 (by omega), hat 2 (by omega), hat 3 (by omega), hat 4 (by omega), hat 5 (by omega), hI, hn, hz⟩
    have H2 : ∀ j, j ≤ l → ∃ ts : List TaskD, ts.length = j ∧ ∀ k t, ts[k]? = some t → ∃ (A' : Option Addr) (c' : Nat), w.cell? (a.add (k * 6)) = some (.string (sb t.name)) ∧ w.cell? (a.add (k * 6 + 1)) = some (.int .i64 t.nodes) ∧ w.cell? (a.add (k * 6 + 2)) = some (.int .i64 t.wall) ∧
        w.cell? (a.add (k * 6 + 3)) = some (.int .i64 t.retry) ∧ w.cell? (a.add (k * 6 + 4)) = some (.bool t.done) ∧ w.cell? (a.add (k * 6 + 5)) = some (.slice A' t.after.length c') ∧ Ints w A' c' t.after ∧ t.name.length ≤ maxLen ∧ (Sz 43 (D k) → t.name.length ≤ reachN ∧ t.after.length ≤ reachN) := by
      intro j
      induction j with
      | zero => exact fun _ => ⟨[], rfl, fun k xs hx => by simp at hx⟩
      | succ j ih =>
        intro hj
        obtain ⟨ts, e1, e3⟩ := ih (by omega)
        obtain ⟨t, A', c', f⟩ := each j (by omega)
        refine ⟨ts ++ [t], by simp [e1], fun k ys hy => ?_⟩
        rcases Nat.lt_or_ge k j with hlt | hge
        · rw [List.getElem?_append_left (by omega)] at hy
          exact e3 k ys hy
        · rw [List.getElem?_append_right (by omega), e1] at hy
          have hk : k = j := by
            have := (List.getElem?_eq_some_iff.1 hy).1
            simp at this; omega
          subst hk
          simp at hy
          subst hy
          exact ⟨A', c', f⟩
    obtain ⟨ts, e1, e3⟩ := H2 l (Nat.le_refl _)
    have spot : ∀ k t, ts[k]? = some t → ∃ b off, a = ⟨b, off, none⟩ := fun k t hk => by
      obtain ⟨t0, h0⟩ : ∃ t, ts[0]? = some t := ⟨_, List.getElem?_eq_getElem (Nat.lt_of_le_of_lt (Nat.zero_le _) (List.getElem?_eq_some_iff.1 hk).1)⟩
      obtain ⟨A', c', g0, _⟩ := e3 0 t0 h0
      obtain ⟨b, off, spot⟩ := a
      have hspot : spot = none := by simpa [Addr.add] using World.cell?_spot g0
      subst hspot
      exact ⟨b, off, rfl⟩
    refine ⟨some a, c, ts, by rw [e1], ⟨fun k t hk => ?_, by omega, hm, (fun e => by cases e), fun t ht => ?_⟩, fun hz t ht => ?_⟩
    · obtain ⟨b, off, rfl⟩ := spot k t hk
      obtain ⟨A', c', g0, g1, g2, g3, g4, g5, gi, gn, _⟩ := e3 k t hk
      simp only [Go.WideShapes.add_plain, ← Nat.add_assoc] at g0 g1 g2 g3 g4 g5
      exact ⟨b, off, A', c', rfl, g0, g1, g2, g3, g4, g5, gi⟩
    · obtain ⟨k, hk⟩ := List.getElem?_of_mem ht
      obtain ⟨A', c', g0, g1, g2, g3, g4, g5, gi, gn, _⟩ := e3 k t hk
      exact gn
    · obtain ⟨k, hk⟩ := List.getElem?_of_mem ht
      obtain ⟨A', c', g0, g1, g2, g3, g4, g5, gi, gn, gz⟩ := e3 k t hk
      refine gz ?_
      unfold Sz at hz ⊢
      rw [hx] at hz
      simp only [DataW.weights, Tryd.underlying22, List.all_cons, List.all_append, Bool.and_eq_true] at hz
      have hkl := (List.getElem?_eq_some_iff.1 hk).1
      exact all_at hz.2.1 (List.mem_map.2 ⟨k, List.mem_range.2 (by omega), rfl⟩)
theorem flow_arg {fuel : Nat} {cs : List Value} {x : DataW H × List MemPlace} (h : DataW.trod enc Tryd.prog w 0 (fun _ => true) true fuel 24 cs = some x) :
    ∃ (f : FlowD) (A : Option Addr) (c : Nat), cs = [.string (sb f.name), .int .i64 f.deadline, .int .i64 f.priority, .slice A f.tasks.length c] ∧ Tasks w A c f.tasks ∧ (Sz 24 x.1 → f.name.length ≤ reachN ∧ ∀ t ∈ f.tasks, t.name.length ≤ reachN ∧ t.after.length ≤ reachN) := by
  obtain ⟨y0, y1, y2, y3, n, hx, hl, h0, h1, h2, h3⟩ := tst4x Tryd.underlying24 h
  rw [c_flow] at hl
  match cs, hl with
  | [a0, a1, a2, a3], _ =>
    simp only [c_string, c_int, c_tasks, List.drop_zero, List.drop_succ_cons, List.take_succ_cons, List.take_zero] at h0 h1 h2 h3
    obtain ⟨s, e0, f0, hs⟩ := DataW.trod_string Tryd.underlying9 h0
    obtain ⟨n1, e1, _, _⟩ := DataW.trod_int Tryd.underlying3 h1
    obtain ⟨n2, e2, _, _⟩ := DataW.trod_int Tryd.underlying3 h2
    obtain ⟨A, c, ts, e3, hi, hts⟩ := tasks_arg h3
    simp only [List.cons.injEq, and_true] at e0 e1 e2
    subst e0 e1 e2 e3
    refine ⟨⟨s.data.toList, n1, n2, ts⟩, A, c, by rw [sb_data], hi, fun hz => ?_⟩
    unfold Sz at hz
    rw [hx] at hz
    simp only [DataW.weights, Tryd.underlying24, List.map_cons, List.map_nil, DataW.weightsEach, List.all_append, Bool.and_eq_true] at hz
    obtain ⟨z0, _, _, z3, _⟩ := hz
    rw [f0] at z0
    exact ⟨lit_sz z0, hts z3⟩
theorem weights_at {ts : List TypeId} {ds : List (DataW H)} (h : (DataW.weightsEach Tryd.prog ts ds).all (· ≤ reachBytes) = true) {j : Nat} {t : TypeId} {d : DataW H} (ht : ts[j]? = some t) (hd : ds[j]? = some d) :
    Sz t d :=
  List.all_eq_true.2 fun n hn => List.all_eq_true.1 h _ (DataW.weights_mem_each ht hd n hn)
end
/-- how large the parts of an argument may be -/
def Small (f : FlowD) : Prop := f.name.length ≤ reachN ∧ ∀ t ∈ f.tasks, t.name.length ≤ reachN ∧ t.after.length ≤ reachN

end Go.Proofs.YtkicanegjkemoaaDoor

/- From what the rows list to the tables as the contracts ask for them; the witness's world. -/
namespace Go.Proofs.YtkicanegjkemoaaDoor
open Go.ChangeShapes Go.WideShapes Go.ChangeAt Go.RowKit Go.Shelf Go.Lib
set_option linter.unusedVariables false
set_option maxRecDepth 100000

def laid7 : List (String × DataW Unit) := [("math/bits.deBruijn64tab", Rows.laid_math_bits_deBruijn64tab), ("unicode.properties", Rows.laid_unicode_properties), ("timekeeper/flow.statements", Rows.laid_timekeeper_flow_statements), ("unicode.Digit", Rows.laid_unicode_Digit), ("unicode.Letter", Rows.laid_unicode_Letter)]
theorem props_eq : Rows.laid_unicode_properties = tabData (H := Unit) .u8 propertiesTab := by kernel_rfl
theorem xD : RExtra Tryd.prog Tryd.laysDigit_ren := ⟨by kernel_rfl, by kernel_rfl, by kernel_rfl, by kernel_rfl, by kernel_rfl, by kernel_rfl, by kernel_rfl, by kernel_rfl⟩
theorem xL : RExtra Tryd.prog Tryd.laysLetter_ren := ⟨by kernel_rfl, by kernel_rfl, by kernel_rfl, by kernel_rfl, by kernel_rfl, by kernel_rfl, by kernel_rfl, by kernel_rfl⟩
theorem gP : Tryd.prog.globalNamed "unicode.properties" = some 1 := by kernel_rfl
theorem gPT : (Tryd.prog.globals[1]?).map (·.type) = some 107 := by kernel_rfl
theorem cells256 : Tryd.prog.cellsOf 107 = 256 := by kernel_rfl
theorem cellsU8 : Tryd.prog.cellsOf 5 = 1 := by kernel_rfl
theorem tab_of_reads {W : World} (h : VarReads Tryd.prog W "unicode.properties" (tabData .u8 propertiesTab)) : Lib.TabIs Tryd.prog W "unicode.properties" .u8 propertiesTab := by
  obtain ⟨g', t', cs, fuel, p, hg', ht', hvar, hd⟩ := h
  obtain rfl := Option.some.inj (gP.symm.trans hg')
  obtain rfl := Option.some.inj (gPT.symm.trans ht')
  unfold Lib.TabIs
  rw [hvar, ← cells_of_tab Tryd.underlying107 Tryd.underlying5 cellsU8 cells256 hd]
def tabI : List Int := Lib.deBruijn64tab.map fun (n : Nat) => (n : Int)
theorem dbr_eq : Rows.laid_math_bits_deBruijn64tab = tabData (H := Unit) .u8 tabI := by kernel_rfl
theorem gB : Tryd.prog.globalNamed "math/bits.deBruijn64tab" = some 4 := by kernel_rfl
theorem gBT : (Tryd.prog.globals[4]?).map (·.type) = some 136 := by kernel_rfl
theorem cells64 : Tryd.prog.cellsOf 136 = 64 := by kernel_rfl
theorem dtab_of {W : World} (h : VarReads Tryd.prog W "math/bits.deBruijn64tab" Rows.laid_math_bits_deBruijn64tab) : Dag.Tab W := by
  rw [dbr_eq] at h
  obtain ⟨g', t', cs, fuel, p, hg', ht', hvar, hd⟩ := h
  obtain rfl := Option.some.inj (gB.symm.trans hg')
  obtain rfl := Option.some.inj (gBT.symm.trans ht')
  have hT : Lib.TabIs Tryd.prog W "math/bits.deBruijn64tab" .u8 tabI := by
    unfold Lib.TabIs
    rw [hvar, ← cells_of_tab Tryd.underlying136 Tryd.underlying5 cellsU8 cells64 hd]
  intro j hj
  have h := hT.cell gB j (by unfold tabI; rw [List.length_map]; exact hj)
  rw [h]
  unfold tabI
  rw [List.getD_eq_getElem?_getD, List.getD_eq_getElem?_getD, List.getElem?_map]
  rw [List.getElem?_eq_getElem hj]
  rfl
def stData (k : Nat) : DataW Unit := .agg [.lit (.string (kwB k)), .lit (.int .i64 (wordsN k)), .lit (.int .i64 (leastN k)), .lit (.int .i64 (mostN k))]
theorem st_eq : Rows.laid_timekeeper_flow_statements = (.agg ((List.range 9).map stData) : DataW Unit) := by kernel_rfl
theorem gS : Tryd.prog.globalNamed "timekeeper/flow.statements" = some 0 := by kernel_rfl
theorem gST : (Tryd.prog.globals[0]?).map (·.type) = some 100 := by kernel_rfl
theorem c_st : Tryd.prog.cellsOf 99 = 4 := by kernel_rfl
theorem st_of {W : World} (h : VarReads Tryd.prog W "timekeeper/flow.statements" (.agg ((List.range 9).map stData))) : TabS W := by
  obtain ⟨g', t', cs, fuel, p, hg', ht', hvar, hd⟩ := h
  obtain rfl := Option.some.inj (gS.symm.trans hg')
  obtain rfl := Option.some.inj (gST.symm.trans ht')
  intro k hk
  obtain ⟨fuel', d, q, hdi, he⟩ := array_elem Tryd.underlying100 hd k hk
  have hdk : d = stData k := by
    rw [List.getElem?_map, List.getElem?_range hk] at hdi
    injection hdi with hdi; exact hdi.symm
  subst hdk
  rw [c_st] at he
  obtain ⟨y0, y1, y2, y3, n, hx, hl, h0, h1, h2, h3⟩ := tst4x Tryd.underlying99 he
  rw [c_st] at hl
  unfold stData at hx
  injection hx with hx
  simp only [List.cons.injEq, and_true] at hx
  obtain ⟨x0, x1, x2, x3⟩ := hx
  have at_ : ∀ j, j < 4 → cs[k * 4 + j]? = ((cs.toList.drop (k * 4)).take 4)[j]? := fun j hj => by
    rw [List.getElem?_take, if_pos hj, List.getElem?_drop, Array.getElem?_toList]
  generalize (cs.toList.drop (k * 4)).take 4 = r at *
  match r, hl with
  | [a0, a1, a2, a3], _ =>
    simp only [c_string, c_int, List.drop_zero, List.drop_succ_cons, List.take_succ_cons, List.take_zero] at h0 h1 h2 h3
    obtain ⟨s, e0, f0, _⟩ := DataW.trod_string Tryd.underlying9 h0
    obtain ⟨n1, e1, f1, _⟩ := DataW.trod_int Tryd.underlying3 h1
    obtain ⟨n2, e2, f2, _⟩ := DataW.trod_int Tryd.underlying3 h2
    obtain ⟨n3, e3, f3, _⟩ := DataW.trod_int Tryd.underlying3 h3
    rw [f0] at x0; rw [f1] at x1; rw [f2] at x2; rw [f3] at x3
    simp only [DataW.lit.injEq, Lit.string.injEq, Lit.int.injEq, true_and] at x0 x1 x2 x3
    simp only [List.cons.injEq, and_true] at e0 e1 e2 e3
    subst e0 e1 e2 e3
    have c := fun j => World.var?_cell gS hvar j
    refine ⟨?_, ?_, ?_, ?_⟩
    · rw [x0, sb_data]; exact (c (k * 4)).trans (at_ 0 (by omega))
    · rw [x1]; exact (c (k * 4 + 1)).trans (at_ 1 (by omega))
    · rw [x2]; exact (c (k * 4 + 2)).trans (at_ 2 (by omega))
    · rw [x3]; exact (c (k * 4 + 3)).trans (at_ 3 (by omega))
theorem tabs_of {W : World} (hL : laidMet Tryd.prog laid7 W) : Tb3 W := by
  have rb := Lib.laidMet.reads hL (.head _)
  have r1 := Lib.laidMet.reads hL (.tail _ (.head _))
  have rs := Lib.laidMet.reads hL (.tail _ (.tail _ (.head _)))
  have r2 := Lib.laidMet.reads hL (.tail _ (.tail _ (.tail _ (.head _))))
  have r3 := Lib.laidMet.reads hL (.tail _ (.tail _ (.tail _ (.tail _ (.head _)))))
  rw [props_eq] at r1
  rw [st_eq] at rs
  rw [Rows.laid_unicode_Digit, Pinned.digit_eq] at r2
  rw [Rows.laid_unicode_Letter, Pinned.letter_eq] at r3
  exact ⟨⟨trivial,
    tab_of_reads r1,
    rvar_of_reads { Tryd.laysLetter with } xL (by kernel_rfl) (by kernel_rfl) r3,
    rvar_of_reads { Tryd.laysDigit with } xD (by kernel_rfl) (by kernel_rfl) r2⟩, st_of rs, dtab_of rb⟩

end Go.Proofs.YtkicanegjkemoaaDoor


