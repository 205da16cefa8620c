/- What the chapter's example fixes: known.
   How much there is of a workflow: Size, long. -/
import Derived.Test.YtgejonmjmieglaaDoorMTel
import Derived.Test.YtgejonmjmieglaaDoorRows
import Derived.Deep.Slices
import Derived.SizedLaws
import Derived.Lib.LaidU8T
import Derived.Lib.LaidTab
import Derived.Lay
import Derived.PinnedBridge
namespace Go.Proofs.YtgejonmjmieglaaDoor
open Go.RowKit
set_option linter.unusedVariables false
set_option maxRecDepth 100000

def kt1 : List UInt8 := [119, 111, 114, 107, 102, 108, 111, 119, 32, 119, 10, 74, 79, 66, 32, 98, 10, 106, 111, 98, 32, 97, 10, 112, 97, 114, 101, 110, 116, 32, 98, 32, 99, 104, 105, 108, 100, 32, 97]
def kt2 : List UInt8 := [87, 79, 82, 75, 70, 76, 79, 87, 32, 119, 10, 74, 79, 66, 32, 98, 10, 74, 79, 66, 32, 97, 10, 80, 65, 82, 69, 78, 84, 32, 98, 32, 67, 72, 73, 76, 68, 32, 97, 10]
def kt3 : List UInt8 := [87, 79, 82, 75, 70, 76, 79, 87, 32, 119, 10, 74, 79, 66, 32, 97, 10, 74, 79, 66, 32, 97]
def kf : FlowD := ⟨[119], 0, 0, [⟨[98], 1, 1, 0, false, []⟩, ⟨[97], 1, 1, 0, false, [0]⟩]⟩
theorem k1 : parseD kt1 = (kf, 0, 0) := by kernel_rfl
theorem k2 : checkE kf = 0 := by kernel_rfl
theorem k3 : printL kf = kt2 := by kernel_rfl
theorem k4 : parseD kt3 = (noFlow, 3, 51) := by kernel_rfl

/-- the tables that the rows list -/
structure Tb3 (w : World) : Prop where
  txt : Txt.Tabs w
  st : TabS w
  dag : Dag.Tab w
theorem Tb3.below {w w' : World} (h : Tb3 w) (hb : Below w.heap.size w w') : Tb3 w' := ⟨h.txt.below hb, h.st.below hb, h.dag.below hb h.dag.lt⟩
theorem dagTab_mono (w w' : World) (h : Dag.Tab w) (hb : Below w.heap.size w w') : Dag.Tab w' := h.below hb h.lt
theorem check_all (f : FlowD) (A : Option Addr) (c : Nat) (w : World) (h : Tasks w A c f.tasks) (hT : Tb3 w) (hl : f.name.length ≤ 9000000000000000000) (hn : ∀ t ∈ f.tasks, t.name.length ≤ 9000000000000000000) :
    Calls Tryd.prog 38 #[.agg #[.string (sb f.name), .int .i64 f.deadline, .int .i64 f.priority, .slice A f.tasks.length c]] w fun e w' => e = .returned (.int .i64 (checkE f)) ∧ Below w.heap.size w w' :=
  check_any 4096 Dag.Tab newOK dagTab_mono f A c w h hT.txt hT.st hT.dag hl hn fun h => h
end Go.Proofs.YtgejonmjmieglaaDoor

/- Arguments that are workflows, lists of texts: what they hold; the tables that the rows list. -/
namespace Go.Proofs.YtgejonmjmieglaaDoor
open Go.ChangeShapes Go.WideShapes Go.ChangeAt Go.RowKit Go.Shelf Go.Lib
open Dag (Ints ints ints_len ints_get')
set_option linter.unusedVariables false
set_option maxRecDepth 100000

def Sz {H : Type} (t : TypeId) (d : DataW H) : Prop := (d.weights Tryd.prog t).all (· ≤ reachBytes) = true
def reachN : Nat := 140737488351232
theorem reach_eq : reachBytes = reachN := rfl
section
variable {H : Type} {enc : TypeId × Value → H} {w : World}
theorem ints_arg {fuel : Nat} {v : Value} {x : DataW H × List MemPlace} (h : DataW.trod enc Tryd.prog w 0 (fun _ => true) true fuel 25 [v] = some x) :
    ∃ (A : Option Addr) (c : Nat) (xs : List Int), v = .slice A xs.length c ∧ Ints w A c xs ∧ (Sz 25 x.1 → xs.length ≤ reachN) := by
  rcases open_ints Tryd.underlying25 Tryd.underlying3 (by kernel_rfl) h with ⟨hcs, hx⟩ | ⟨a, l, c, zs, hcs, _, hl, hm, hz, hx, hcell, hwz⟩
  · simp at hcs
    subst hcs hx
    exact ⟨none, 0, [], rfl, Dag.Sl.empty _, fun _ => Nat.zero_le _⟩
  · simp at hcs
    subst hcs
    simp only [if_true] at hz
    have hlen : (zs.take l).length = l := by rw [List.length_take]; omega
    refine ⟨some a, c, zs.take l, by rw [hlen], ⟨fun k u hu => ?_, by rw [ints_len]; omega, hm, fun e => by cases e⟩, fun hs => ?_⟩
    · obtain ⟨y, hy, rfl⟩ := ints_get' hu
      have hk : k < zs.length := by
        have := (List.getElem?_eq_some_iff.1 hy).1
        rw [List.length_take] at this
        omega
      obtain ⟨b, off, rfl, hc⟩ := ints_at hcell (by omega)
      have h1 := hc k hk
      have e : zs.getD k 0 = y := by
        rw [List.getElem?_take] at hy
        split at hy
        · rw [List.getD_eq_getElem?_getD, hy]; rfl
        · cases hy
      rw [e] at h1
      exact ⟨b, off, rfl, h1⟩
    · rw [hlen]
      unfold Sz at hs
      rw [hx] at hs
      have hb : Tryd.prog.bytesOf 3 = 8 := by kernel_rfl
      simp only [DataW.weights, Tryd.underlying25, List.all_cons, Bool.and_eq_true, hb] at hs
      have := of_decide_eq_true hs.1
      simp [lits] at this
      rw [reach_eq] at this
      omega

theorem tst4x {P : Program} {base : Nat} {spare : Nat → Bool} {held : Bool} {t : TypeId} {f0 f1 f2 f3 : Field} {fuel : Nat} {cs : List Value} {x : DataW H × List MemPlace} (ht : P.underlying t = some (.struct #[f0, f1, f2, f3])) (h : DataW.trod enc P w base spare held fuel t cs = some x) :
    ∃ y0 y1 y2 y3 n, x.1 = .agg [y0.1, y1.1, y2.1, y3.1] ∧ cs.length = P.cellsOf t ∧ DataW.trod enc P w base spare held n f0.type ((cs.drop f0.offset).take (P.cellsOf f0.type)) = some y0 ∧
      DataW.trod enc P w base spare held n f1.type ((cs.drop f1.offset).take (P.cellsOf f1.type)) = some y1 ∧ DataW.trod enc P w base spare held n f2.type ((cs.drop f2.offset).take (P.cellsOf f2.type)) = some y2 ∧
      DataW.trod enc P w base spare held n f3.type ((cs.drop f3.offset).take (P.cellsOf f3.type)) = some y3 := by
  obtain ⟨xs, n, _, rfl, hl, hlen, hf⟩ := DataW.trod_struct ht h
  match xs, hlen with
  | [y0, y1, y2, y3], _ => exact ⟨y0, y1, y2, y3, n, rfl, hl, by simpa using hf 0 f0 rfl, by simpa using hf 1 f1 rfl, by simpa using hf 2 f2 rfl, by simpa using hf 3 f3 rfl⟩
theorem tst6x {P : Program} {base : Nat} {spare : Nat → Bool} {held : Bool} {t : TypeId} {f0 f1 f2 f3 f4 f5 : Field} {fuel : Nat} {cs : List Value} {x : DataW H × List MemPlace} (ht : P.underlying t = some (.struct #[f0, f1, f2, f3, f4, f5])) (h : DataW.trod enc P w base spare held fuel t cs = some x) :
    ∃ y0 y1 y2 y3 y4 y5 n, x.1 = .agg [y0.1, y1.1, y2.1, y3.1, y4.1, y5.1] ∧ cs.length = P.cellsOf t ∧ DataW.trod enc P w base spare held n f0.type ((cs.drop f0.offset).take (P.cellsOf f0.type)) = some y0 ∧
      DataW.trod enc P w base spare held n f1.type ((cs.drop f1.offset).take (P.cellsOf f1.type)) = some y1 ∧ DataW.trod enc P w base spare held n f2.type ((cs.drop f2.offset).take (P.cellsOf f2.type)) = some y2 ∧
      DataW.trod enc P w base spare held n f3.type ((cs.drop f3.offset).take (P.cellsOf f3.type)) = some y3 ∧ DataW.trod enc P w base spare held n f4.type ((cs.drop f4.offset).take (P.cellsOf f4.type)) = some y4 ∧
      DataW.trod enc P w base spare held n f5.type ((cs.drop f5.offset).take (P.cellsOf f5.type)) = some y5 := by
  obtain ⟨xs, n, _, rfl, hl, hlen, hf⟩ := DataW.trod_struct ht h
  match xs, hlen with
  | [y0, y1, y2, y3, y4, y5], _ => exact ⟨y0, y1, y2, y3, y4, y5, n, rfl, hl, by simpa using hf 0 f0 rfl, by simpa using hf 1 f1 rfl, by simpa using hf 2 f2 rfl, by simpa using hf 3 f3 rfl, by simpa using hf 4 f4 rfl, by simpa using hf 5 f5 rfl⟩

theorem c_task : Tryd.prog.cellsOf 64 = 6 := by kernel_rfl
theorem c_flow : Tryd.prog.cellsOf 24 = 4 := by kernel_rfl
theorem c_string : Tryd.prog.cellsOf 9 = 1 := by kernel_rfl
theorem c_int : Tryd.prog.cellsOf 3 = 1 := by kernel_rfl
theorem c_bool : Tryd.prog.cellsOf 4 = 1 := by kernel_rfl
theorem c_ints : Tryd.prog.cellsOf 25 = 1 := by kernel_rfl
theorem c_tasks : Tryd.prog.cellsOf 22 = 1 := by kernel_rfl
theorem lit_sz {s : ByteArray} (h : Sz (H := H) 9 (.lit (.string s.data.toList))) : s.data.toList.length ≤ reachN := by
  unfold Sz at h
  simp only [DataW.weights, List.all_cons, List.all_nil, Bool.and_true] at h
  have := of_decide_eq_true h
  rwa [reach_eq] at this
/-- one task's six cells -/
theorem task_arg {fuel : Nat} {cs : List Value} {x : DataW H × List MemPlace} (h : DataW.trod enc Tryd.prog w 0 (fun _ => true) true fuel 64 cs = some x) :
    ∃ (t : TaskD) (A : Option Addr) (c : Nat), cs = [.string (sb t.name), .int .i64 t.nodes, .int .i64 t.wall, .int .i64 t.retry, .bool t.done, .slice A t.after.length c] ∧ Ints w A c t.after ∧ t.name.length ≤ maxLen ∧ (Sz 64 x.1 → t.name.length ≤ reachN ∧ t.after.length ≤ reachN) := by
  obtain ⟨y0, y1, y2, y3, y4, y5, n, hx, hl, h0, h1, h2, h3, h4, h5⟩ := tst6x Tryd.underlying64 h
  rw [c_task] at hl
  match cs, hl with
  | [a0, a1, a2, a3, a4, a5], _ =>
    simp only [c_string, c_int, c_bool, c_ints, List.drop_zero, List.drop_succ_cons, List.take_succ_cons, List.take_zero] at h0 h1 h2 h3 h4 h5
    obtain ⟨s, e0, f0, hs⟩ := DataW.trod_string Tryd.underlying9 h0
    obtain ⟨n1, e1, _, _⟩ := DataW.trod_int Tryd.underlying3 h1
    obtain ⟨n2, e2, _, _⟩ := DataW.trod_int Tryd.underlying3 h2
    obtain ⟨n3, e3, _, _⟩ := DataW.trod_int Tryd.underlying3 h3
    obtain ⟨b4, e4, _⟩ := DataW.trod_bool Tryd.underlying4 h4
    obtain ⟨A, c, xs, e5, hi, hxs⟩ := ints_arg h5
    simp only [List.cons.injEq, and_true] at e0 e1 e2 e3 e4
    subst e0 e1 e2 e3 e4 e5
    refine ⟨⟨s.data.toList, n1, n2, n3, b4, xs⟩, A, c, by rw [sb_data], hi, by rw [show s.data.toList.length = s.size from Array.length_toList]; exact hs, fun hz => ?_⟩
    unfold Sz at hz
    rw [hx] at hz
    simp only [DataW.weights, Tryd.underlying64, List.map_cons, List.map_nil, DataW.weightsEach, List.all_append, Bool.and_eq_true] at hz
    obtain ⟨z0, _, _, _, _, z5, _⟩ := hz
    rw [f0] at z0
    exact ⟨lit_sz z0, hxs z5⟩
theorem all_at {p : Nat → Bool} {e : TypeId} {l : List (DataW H)} {d : DataW H} (h : (DataW.weightsAll Tryd.prog e l).all p = true) (hd : d ∈ l) : (d.weights Tryd.prog e).all p = true := by
  induction l with
  | nil => cases hd
  | cons x l ih =>
    rw [DataW.weightsAll, List.all_append, Bool.and_eq_true] at h
    rcases List.mem_cons.1 hd with rfl | hd
    · exact h.1
    · exact ih h.2 hd
theorem tasks_arg {fuel : Nat} {v : Value} {x : DataW H × List MemPlace} (h : DataW.trod enc Tryd.prog w 0 (fun _ => true) true fuel 22 [v] = some x) :
    ∃ (A : Option Addr) (c : Nat) (ts : List TaskD), v = .slice A ts.length c ∧ Tasks w A c ts ∧ (Sz 22 x.1 → ∀ t ∈ ts, t.name.length ≤ reachN ∧ t.after.length ≤ reachN) := by
  rcases Go.Deep.open_slice Tryd.underlying22 h with ⟨hcs, hx⟩ | ⟨a, l, c, m, n, D, Pl, hcs, _, hl, hm, hmm, hx, hi⟩
  · simp at hcs
    subst hcs hx
    exact ⟨none, 0, [], rfl, Tasks.empty _, fun _ t ht => by cases ht⟩
  · simp at hcs
    subst hcs
    simp only [if_true] at hmm
    have each : ∀ i, i < l → ∃ (t : TaskD) (A' : Option Addr) (c' : Nat), w.cell? (a.add (i * 6)) = some (.string (sb t.name)) ∧ w.cell? (a.add (i * 6 + 1)) = some (.int .i64 t.nodes) ∧ w.cell? (a.add (i * 6 + 2)) = some (.int .i64 t.wall) ∧
        w.cell? (a.add (i * 6 + 3)) = some (.int .i64 t.retry) ∧ w.cell? (a.add (i * 6 + 4)) = some (.bool t.done) ∧ w.cell? (a.add (i * 6 + 5)) = some (.slice A' t.after.length c') ∧ Ints w A' c' t.after ∧ t.name.length ≤ maxLen ∧ (Sz 64 (D i) → t.name.length ≤ reachN ∧ t.after.length ≤ reachN) := by
      intro i hil
      obtain ⟨cs', h1, h2⟩ := hi i (by omega)
      rw [c_task] at h1
      obtain ⟨_, hcl, hat⟩ := World.cells?_some h1
      obtain ⟨t, A', c', rfl, hI, hn, hz⟩ := task_arg h2
      simp only [Go.Deep.add_add] at hat
      exact ⟨t, A', c', hat 0 (by omega), hat 1 (by omega), hat 2 (by omega), hat 3 (by omega), hat 4 (by omega), hat 5 (by omega), hI, hn, hz⟩
    have H2 : ∀ j, j ≤ l → ∃ ts : List TaskD, ts.length = j ∧ ∀ k t, ts[k]? = some t → ∃ (A' : Option Addr) (c' : Nat), w.cell? (a.add (k * 6)) = some (.string (sb t.name)) ∧ w.cell? (a.add (k * 6 + 1)) = some (.int .i64 t.nodes) ∧ w.cell? (a.add (k * 6 + 2)) = some (.int .i64 t.wall) ∧
        w.cell? (a.add (k * 6 + 3)) = some (.int .i64 t.retry) ∧ w.cell? (a.add (k * 6 + 4)) = some (.bool t.done) ∧ w.cell? (a.add (k * 6 + 5)) = some (.slice A' t.after.length c') ∧ Ints w A' c' t.after ∧ t.name.length ≤ maxLen ∧ (Sz 64 (D k) → t.name.length ≤ reachN ∧ t.after.length ≤ reachN) := by
      intro j
      induction j with
      | zero => exact fun _ => ⟨[], rfl, fun k xs hx => by simp at hx⟩
      | succ j ih =>
        intro hj
        obtain ⟨ts, e1, e3⟩ := ih (by omega)
        obtain ⟨t, A', c', f⟩ := each j (by omega)
        refine ⟨ts ++ [t], by simp [e1], fun k ys hy => ?_⟩
        rcases Nat.lt_or_ge k j with hlt | hge
        · rw [List.getElem?_append_left (by omega)] at hy
          exact e3 k ys hy
        · rw [List.getElem?_append_right (by omega), e1] at hy
          have hk : k = j := by
            have := (List.getElem?_eq_some_iff.1 hy).1
            simp at this; omega
          subst hk
          simp at hy
          subst hy
          exact ⟨A', c', f⟩
    obtain ⟨ts, e1, e3⟩ := H2 l (Nat.le_refl _)
    have spot : ∀ k t, ts[k]? = some t → ∃ b off, a = ⟨b, off, none⟩ := fun k t hk => by
      obtain ⟨t0, h0⟩ : ∃ t, ts[0]? = some t := ⟨_, List.getElem?_eq_getElem (Nat.lt_of_le_of_lt (Nat.zero_le _) (List.getElem?_eq_some_iff.1 hk).1)⟩
      obtain ⟨A', c', g0, _⟩ := e3 0 t0 h0
      obtain ⟨b, off, spot⟩ := a
      have hspot : spot = none := by simpa [Addr.add] using World.cell?_spot g0
      subst hspot
      exact ⟨b, off, rfl⟩
    refine ⟨some a, c, ts, by rw [e1], ⟨fun k t hk => ?_, by omega, hm, (fun e => by cases e), fun t ht => ?_⟩, fun hz t ht => ?_⟩
    · obtain ⟨b, off, rfl⟩ := spot k t hk
      obtain ⟨A', c', g0, g1, g2, g3, g4, g5, gi, gn, _⟩ := e3 k t hk
      simp only [Go.WideShapes.add_plain, ← Nat.add_assoc] at g0 g1 g2 g3 g4 g5
      exact ⟨b, off, A', c', rfl, g0, g1, g2, g3, g4, g5, gi⟩
    · obtain ⟨k, hk⟩ := List.getElem?_of_mem ht
      obtain ⟨A', c', g0, g1, g2, g3, g4, g5, gi, gn, _⟩ := e3 k t hk
      exact gn
    · obtain ⟨k, hk⟩ := List.getElem?_of_mem ht
      obtain ⟨A', c', g0, g1, g2, g3, g4, g5, gi, gn, gz⟩ := e3 k t hk
      refine gz ?_
      unfold Sz at hz ⊢
      rw [hx] at hz
      simp only [DataW.weights, Tryd.underlying22, List.all_cons, List.all_append, Bool.and_eq_true] at hz
      have hkl := (List.getElem?_eq_some_iff.1 hk).1
      exact all_at hz.2.1 (List.mem_map.2 ⟨k, List.mem_range.2 (by omega), rfl⟩)
theorem flow_arg {fuel : Nat} {cs : List Value} {x : DataW H × List MemPlace} (h : DataW.trod enc Tryd.prog w 0 (fun _ => true) true fuel 24 cs = some x) :
    ∃ (f : FlowD) (A : Option Addr) (c : Nat), cs = [.string (sb f.name), .int .i64 f.deadline, .int .i64 f.priority, .slice A f.tasks.length c] ∧ Tasks w A c f.tasks ∧ (Sz 24 x.1 → f.name.length ≤ reachN ∧ ∀ t ∈ f.tasks, t.name.length ≤ reachN ∧ t.after.length ≤ reachN) := by
  obtain ⟨y0, y1, y2, y3, n, hx, hl, h0, h1, h2, h3⟩ := tst4x Tryd.underlying24 h
  rw [c_flow] at hl
  match cs, hl with
  | [a0, a1, a2, a3], _ =>
    simp only [c_string, c_int, c_tasks, List.drop_zero, List.drop_succ_cons, List.take_succ_cons, List.take_zero] at h0 h1 h2 h3
    obtain ⟨s, e0, f0, hs⟩ := DataW.trod_string Tryd.underlying9 h0
    obtain ⟨n1, e1, _, _⟩ := DataW.trod_int Tryd.underlying3 h1
    obtain ⟨n2, e2, _, _⟩ := DataW.trod_int Tryd.underlying3 h2
    obtain ⟨A, c, ts, e3, hi, hts⟩ := tasks_arg h3
    simp only [List.cons.injEq, and_true] at e0 e1 e2
    subst e0 e1 e2 e3
    refine ⟨⟨s.data.toList, n1, n2, ts⟩, A, c, by rw [sb_data], hi, fun hz => ?_⟩
    unfold Sz at hz
    rw [hx] at hz
    simp only [DataW.weights, Tryd.underlying24, List.map_cons, List.map_nil, DataW.weightsEach, List.all_append, Bool.and_eq_true] at hz
    obtain ⟨z0, _, _, z3, _⟩ := hz
    rw [f0] at z0
    exact ⟨lit_sz z0, hts z3⟩
theorem weights_at {ts : List TypeId} {ds : List (DataW H)} (h : (DataW.weightsEach Tryd.prog ts ds).all (· ≤ reachBytes) = true) {j : Nat} {t : TypeId} {d : DataW H} (ht : ts[j]? = some t) (hd : ds[j]? = some d) :
    Sz t d :=
  List.all_eq_true.2 fun n hn => List.all_eq_true.1 h _ (DataW.weights_mem_each ht hd n hn)
end
/-- how large the parts of an argument may be -/
def Small (f : FlowD) : Prop := f.name.length ≤ reachN ∧ ∀ t ∈ f.tasks, t.name.length ≤ reachN ∧ t.after.length ≤ reachN

end Go.Proofs.YtgejonmjmieglaaDoor

/- From what the rows list to the tables as the contracts ask for them; the witness's world. -/
namespace Go.Proofs.YtgejonmjmieglaaDoor
open Go.ChangeShapes Go.WideShapes Go.ChangeAt Go.RowKit Go.Shelf Go.Lib
set_option linter.unusedVariables false
set_option maxRecDepth 100000

def laid7 : List (String × DataW Unit) := [("math/bits.deBruijn64tab", Rows.laid_math_bits_deBruijn64tab), ("unicode.properties", Rows.laid_unicode_properties), ("timekeeper/flow.statements", Rows.laid_timekeeper_flow_statements), ("unicode.Digit", Rows.laid_unicode_Digit), ("unicode.Letter", Rows.laid_unicode_Letter)]
theorem props_eq : Rows.laid_unicode_properties = tabData (H := Unit) .u8 propertiesTab := by kernel_rfl
theorem xD : RExtra Tryd.prog Tryd.laysDigit_ren := ⟨by kernel_rfl, by kernel_rfl, by kernel_rfl, by kernel_rfl, by kernel_rfl, by kernel_rfl, by kernel_rfl, by kernel_rfl⟩
theorem xL : RExtra Tryd.prog Tryd.laysLetter_ren := ⟨by kernel_rfl, by kernel_rfl, by kernel_rfl, by kernel_rfl, by kernel_rfl, by kernel_rfl, by kernel_rfl, by kernel_rfl⟩
theorem gP : Tryd.prog.globalNamed "unicode.properties" = some 1 := by kernel_rfl
theorem gPT : (Tryd.prog.globals[1]?).map (·.type) = some 119 := by kernel_rfl
theorem cells256 : Tryd.prog.cellsOf 119 = 256 := by kernel_rfl
theorem cellsU8 : Tryd.prog.cellsOf 5 = 1 := by kernel_rfl
theorem tab_of_reads {W : World} (h : VarReads Tryd.prog W "unicode.properties" (tabData .u8 propertiesTab)) : Lib.TabIs Tryd.prog W "unicode.properties" .u8 propertiesTab := by
  obtain ⟨g', t', cs, fuel, p, hg', ht', hvar, hd⟩ := h
  obtain rfl := Option.some.inj (gP.symm.trans hg')
  obtain rfl := Option.some.inj (gPT.symm.trans ht')
  unfold Lib.TabIs
  rw [hvar, ← cells_of_tab Tryd.underlying119 Tryd.underlying5 cellsU8 cells256 hd]
def tabI : List Int := Lib.deBruijn64tab.map fun (n : Nat) => (n : Int)
theorem dbr_eq : Rows.laid_math_bits_deBruijn64tab = tabData (H := Unit) .u8 tabI := by kernel_rfl
theorem gB : Tryd.prog.globalNamed "math/bits.deBruijn64tab" = some 4 := by kernel_rfl
theorem gBT : (Tryd.prog.globals[4]?).map (·.type) = some 138 := by kernel_rfl
theorem cells64 : Tryd.prog.cellsOf 138 = 64 := by kernel_rfl
theorem dtab_of {W : World} (h : VarReads Tryd.prog W "math/bits.deBruijn64tab" Rows.laid_math_bits_deBruijn64tab) : Dag.Tab W := by
  rw [dbr_eq] at h
  obtain ⟨g', t', cs, fuel, p, hg', ht', hvar, hd⟩ := h
  obtain rfl := Option.some.inj (gB.symm.trans hg')
  obtain rfl := Option.some.inj (gBT.symm.trans ht')
  have hT : Lib.TabIs Tryd.prog W "math/bits.deBruijn64tab" .u8 tabI := by
    unfold Lib.TabIs
    rw [hvar, ← cells_of_tab Tryd.underlying138 Tryd.underlying5 cellsU8 cells64 hd]
  intro j hj
  have h := hT.cell gB j (by unfold tabI; rw [List.length_map]; exact hj)
  rw [h]
  unfold tabI
  rw [List.getD_eq_getElem?_getD, List.getD_eq_getElem?_getD, List.getElem?_map]
  rw [List.getElem?_eq_getElem hj]
  rfl
def stData (k : Nat) : DataW Unit := .agg [.lit (.string (kwB k)), .lit (.int .i64 (wordsN k)), .lit (.int .i64 (leastN k)), .lit (.int .i64 (mostN k))]
theorem st_eq : Rows.laid_timekeeper_flow_statements = (.agg ((List.range 9).map stData) : DataW Unit) := by kernel_rfl
theorem gS : Tryd.prog.globalNamed "timekeeper/flow.statements" = some 0 := by kernel_rfl
theorem gST : (Tryd.prog.globals[0]?).map (·.type) = some 99 := by kernel_rfl
theorem c_st : Tryd.prog.cellsOf 98 = 4 := by kernel_rfl
theorem st_of {W : World} (h : VarReads Tryd.prog W "timekeeper/flow.statements" (.agg ((List.range 9).map stData))) : TabS W := by
  obtain ⟨g', t', cs, fuel, p, hg', ht', hvar, hd⟩ := h
  obtain rfl := Option.some.inj (gS.symm.trans hg')
  obtain rfl := Option.some.inj (gST.symm.trans ht')
  intro k hk
  obtain ⟨fuel', d, q, hdi, he⟩ := array_elem Tryd.underlying99 hd k hk
  have hdk : d = stData k := by
    rw [List.getElem?_map, List.getElem?_range hk] at hdi
    injection hdi with hdi; exact hdi.symm
  subst hdk
  rw [c_st] at he
  obtain ⟨y0, y1, y2, y3, n, hx, hl, h0, h1, h2, h3⟩ := tst4x Tryd.underlying98 he
  rw [c_st] at hl
  unfold stData at hx
  injection hx with hx
  simp only [List.cons.injEq, and_true] at hx
  obtain ⟨x0, x1, x2, x3⟩ := hx
  have at_ : ∀ j, j < 4 → cs[k * 4 + j]? = ((cs.toList.drop (k * 4)).take 4)[j]? := fun j hj => by
    rw [List.getElem?_take, if_pos hj, List.getElem?_drop, Array.getElem?_toList]
  generalize (cs.toList.drop (k * 4)).take 4 = r at *
  match r, hl with
  | [a0, a1, a2, a3], _ =>
    simp only [c_string, c_int, List.drop_zero, List.drop_succ_cons, List.take_succ_cons, List.take_zero] at h0 h1 h2 h3
    obtain ⟨s, e0, f0, _⟩ := DataW.trod_string Tryd.underlying9 h0
    obtain ⟨n1, e1, f1, _⟩ := DataW.trod_int Tryd.underlying3 h1
    obtain ⟨n2, e2, f2, _⟩ := DataW.trod_int Tryd.underlying3 h2
    obtain ⟨n3, e3, f3, _⟩ := DataW.trod_int Tryd.underlying3 h3
    rw [f0] at x0; rw [f1] at x1; rw [f2] at x2; rw [f3] at x3
    simp only [DataW.lit.injEq, Lit.string.injEq, Lit.int.injEq, true_and] at x0 x1 x2 x3
    simp only [List.cons.injEq, and_true] at e0 e1 e2 e3
    subst e0 e1 e2 e3
    have c := fun j => World.var?_cell gS hvar j
    refine ⟨?_, ?_, ?_, ?_⟩
    · rw [x0, sb_data]; exact (c (k * 4)).trans (at_ 0 (by omega))
    · rw [x1]; exact (c (k * 4 + 1)).trans (at_ 1 (by omega))
    · rw [x2]; exact (c (k * 4 + 2)).trans (at_ 2 (by omega))
    · rw [x3]; exact (c (k * 4 + 3)).trans (at_ 3 (by omega))
theorem tabs_of {W : World} (hL : laidMet Tryd.prog laid7 W) : Tb3 W := by
  have rb := Lib.laidMet.reads hL (.head _)
  have r1 := Lib.laidMet.reads hL (.tail _ (.head _))
  have rs := Lib.laidMet.reads hL (.tail _ (.tail _ (.head _)))
  have r2 := Lib.laidMet.reads hL (.tail _ (.tail _ (.tail _ (.head _))))
  have r3 := Lib.laidMet.reads hL (.tail _ (.tail _ (.tail _ (.tail _ (.head _)))))
  rw [props_eq] at r1
  rw [st_eq] at rs
  rw [Rows.laid_unicode_Digit, Pinned.digit_eq] at r2
  rw [Rows.laid_unicode_Letter, Pinned.letter_eq] at r3
  exact ⟨⟨trivial,
    tab_of_reads r1,
    rvar_of_reads { Tryd.laysLetter with } xL (by kernel_rfl) (by kernel_rfl) r3,
    rvar_of_reads { Tryd.laysDigit with } xD (by kernel_rfl) (by kernel_rfl) r2⟩, st_of rs, dtab_of rb⟩

end Go.Proofs.YtgejonmjmieglaaDoor
namespace Go.Proofs.YtgejonmjmieglaaDoor
open Go.RowKit
set_option linter.unusedVariables false
set_option maxRecDepth 100000

def sizeT : List TaskD → Nat
  | [] => 0
  | t :: r => 1 + t.name.length + t.after.length + sizeT r
def sizeD (f : FlowD) : Nat := f.name.length + sizeT f.tasks
theorem sizeT_app (a b : List TaskD) : sizeT (a ++ b) = sizeT a + sizeT b := by
  induction a with
  | nil => simp [sizeT]
  | cons x a ih => simp only [List.cons_append, sizeT, ih]; omega
theorem sizeT_snoc {l : List TaskD} {k : Nat} {x : TaskD} (h : l[k]? = some x) : sizeT (l.take (k + 1)) = sizeT (l.take k) + (1 + x.name.length + x.after.length) := by
  rw [List.take_add_one, h, sizeT_app]; simp [sizeT]
theorem sizeT_take {l : List TaskD} (k : Nat) : sizeT (l.take k) ≤ sizeT l := by
  conv => rhs; rw [← List.take_append_drop k l, sizeT_app]
  omega
theorem sizeT_mem {l : List TaskD} {t : TaskD} (h : t ∈ l) : 1 + t.name.length + t.after.length ≤ sizeT l := by
  induction l with
  | nil => simp at h
  | cons x l ih =>
    simp only [sizeT]
    rcases List.mem_cons.1 h with rfl | h
    · omega
    · have := ih h; omega
theorem sizeT_bound : ∀ {l : List TaskD}, (∀ t ∈ l, t.name.length ≤ reachN ∧ t.after.length ≤ reachN) → sizeT l ≤ l.length * (1 + reachN + reachN)
  | [], _ => by simp [sizeT]
  | x :: l, h => by
    have h1 := h x (by simp)
    have h2 := sizeT_bound (l := l) fun t ht => h t (by simp [ht])
    simp only [sizeT, List.length_cons, Nat.add_mul, Nat.one_mul] at h2 ⊢
    omega

set_option maxHeartbeats 1600000 in
theorem size_some (f : FlowD) (A : Option Addr) (c : Nat) (w : World) (h : Tasks w A c f.tasks) :
    Calls Tryd.prog 32 #[.agg #[.string (sb f.name), .int .i64 f.deadline, .int .i64 f.priority, .slice A f.tasks.length c]] w fun e w' => (∃ x, e = .returned (.int .i64 x)) ∧ Below w.heap.size w w' := by
  have hlm := h.lenI
  have H := Lib.hid h; clear h
  go_enter Tryd.func32, Tryd.ntmps32
  go_wp2
  go_loopw [3, 4] (fun n i wr => ∃ (k : Nat) (x : Int), k ≤ f.tasks.length ∧ i = .int .i64 k ∧ n = .int .i64 x ∧ Below w.heap.size w wr ∧ Hid (wr.heap[w.heap.size]? = some (flowO f A c))) (fun _ i _ => f.tasks.length - (intOf i).toNat)
  case atStart => exact ⟨0, _, Nat.zero_le _, rfl, rfl, al _ _, Lib.hid (heap_alloc_new w _)⟩
  case round =>
    obtain ⟨k, x, hk, rfl, rfl, hb, ho⟩ := hrel
    obtain ⟨p0, p1, p2, p3, _⟩ := flowO_cells ho.out
    by_cases hlt : k < f.tasks.length
    · obtain ⟨t, ht⟩ : ∃ t, f.tasks[k]? = some t := ⟨_, List.getElem?_eq_getElem hlt⟩
      obtain ⟨b, off, A', c', rfl, h0, h1, h2, h3, h4, h5, _⟩ := (H.out.below hb).cells k _ ht
      go_wp2
      go_quiet (fail)
      go_wp2
      go_roundw
      case rel => exact ⟨k + 1, _, by omega, by go_num, rfl, blw hb (bdrew _ _), Lib.hid (keep_obj (bdrew _ _) ho.out)⟩
      case measure => simp [intOf]; omega
    · go_wp2
      go_ret
      exact ⟨⟨_, rfl⟩, hb⟩

set_option maxHeartbeats 1600000 in
theorem size_few (f : FlowD) (A : Option Addr) (c : Nat) (w : World) (h : Tasks w A c f.tasks) (hn : f.tasks.length ≤ 30) (hs : Small f) :
    Calls Tryd.prog 32 #[.agg #[.string (sb f.name), .int .i64 f.deadline, .int .i64 f.priority, .slice A f.tasks.length c]] w fun e w' => e = .returned (.int .i64 (sizeD f : Nat)) ∧ Below w.heap.size w w' := by
  have hsb : sizeT f.tasks ≤ 30 * (1 + reachN + reachN) := Nat.le_trans (sizeT_bound hs.2) (Nat.mul_le_mul_right _ hn)
  have HN := Lib.hid hs.2
  have H := Lib.hid h
  have hm : reachN ≤ 140737488355328 := by decide
  have hsb2 : sizeT f.tasks ≤ 8444249301319740 + 30 := by omega
  have hl := hs.1
  have HSB := Lib.hid hsb2; have HM := Lib.hid hm; have HL := Lib.hid (Nat.le_trans hl hm)
  clear h hs
  clear hsb hsb2 hl hm
  go_enter Tryd.func32, Tryd.ntmps32
  go_wp2
  go_loopw [3, 4] (fun n i wr => ∃ (k x : Nat), k ≤ f.tasks.length ∧ i = .int .i64 k ∧ n = .int .i64 (x : Int) ∧ x = f.name.length + sizeT (f.tasks.take k) ∧ Below w.heap.size w wr ∧ Hid (wr.heap[w.heap.size]? = some (flowO f A c))) (fun _ i _ => f.tasks.length - (intOf i).toNat)
  case atStart => exact ⟨0, f.name.length, Nat.zero_le _, rfl, by rw [sb_size], by simp [sizeT], al _ _, Lib.hid (heap_alloc_new w _)⟩
  case round =>
    obtain ⟨k, x, hk, rfl, rfl, hx, hb, ho⟩ := hrel
    obtain ⟨p0, p1, p2, p3, _⟩ := flowO_cells ho.out
    have hxb : x ≤ 8584986789675098 := by have := HL.out; have := HSB.out; have := sizeT_take (l := f.tasks) k; omega
    by_cases hlt : k < f.tasks.length
    · obtain ⟨t, ht⟩ : ∃ t, f.tasks[k]? = some t := ⟨_, List.getElem?_eq_getElem hlt⟩
      obtain ⟨b, off, A', c', rfl, h0, h1, h2, h3, h4, h5, _⟩ := (H.out.below hb).cells k _ ht
      obtain ⟨hn1, hn2⟩ := HN.out t (List.mem_of_getElem? ht)
      have hn3 : (sb t.name).size ≤ 140737488355328 := by rw [sb_size]; exact Nat.le_trans hn1 HM.out
      have hn4 : t.after.length ≤ 140737488355328 := Nat.le_trans hn2 HM.out
      have HX := Lib.hid hx
      have HS := Lib.hid (sizeT_snoc ht)
      clear hx hn1 hn2 ht
      go_wp2
      go_quiet (fail)
      go_wp2
      go_roundw
      case rel => exact ⟨k + 1, x + 1 + t.name.length + t.after.length, by omega, by go_num, by rw [sb_size]; go_num, by rw [HS.out, HX.out]; omega, blw hb (bdrew _ _), Lib.hid (keep_obj (bdrew _ _) ho.out)⟩
      case measure => simp [intOf]; omega
    · obtain rfl : k = f.tasks.length := by omega
      rw [List.take_length] at hx
      go_wp2
      go_ret
      exact ⟨by rw [hx]; rfl, hb⟩

/-- long: is there more of it than is looked at -/
def longD (f : FlowD) : Bool := decide (30 < f.tasks.length ∨ 500 < sizeD f)
theorem longD_no {f : FlowD} (h : longD f = false) : f.tasks.length ≤ 30 ∧ sizeD f ≤ 500 := by
  unfold longD at h
  have := of_decide_eq_false h
  omega
theorem longD_names {f : FlowD} (h : longD f = false) : f.name.length ≤ 500 ∧ ∀ t ∈ f.tasks, t.name.length ≤ 500 ∧ t.after.length ≤ 500 := by
  obtain ⟨_, h2⟩ := longD_no h
  unfold sizeD at h2
  refine ⟨by omega, fun t ht => ?_⟩
  have := sizeT_mem ht
  omega
theorem ret_or {a b c : Bool} (h : (a || b) = c) : Ending.returned (.bool (a || b)) = Ending.returned (.bool c) := by rw [h]
end Go.Proofs.YtgejonmjmieglaaDoor

/- Of the document's: Find, After, numbers. -/
namespace Go.Proofs.YtgejonmjmieglaaDoor
open Go.RowKit
open Dag (Ints IRows Own1 Sl)
open Clk (isT)
set_option linter.unusedVariables false
set_option maxRecDepth 100000

def findI (ts : List TaskD) (s : List UInt8) : Int := if s ∈ names ts then ((names ts).idxOf s : Int) else -1
theorem findI_at {ts : List TaskD} {k : Nat} {t : TaskD} {s : List UInt8} (h : ts[k]? = some t) (e : t.name = s) (hn : s ∉ names (ts.take k)) : findI ts s = k := by
  obtain ⟨hk, he⟩ := List.getElem?_eq_some_iff.1 h
  have hs : ts = ts.take k ++ t :: ts.drop (k + 1) := by rw [← he, ← List.drop_eq_getElem_cons hk, List.take_append_drop]
  have hm : names ts = names (ts.take k) ++ s :: names (ts.drop (k + 1)) := by
    conv => lhs; rw [hs]
    simp [names, e]
  unfold findI
  rw [if_pos (by rw [hm]; simp), hm, List.idxOf_append, if_neg hn]
  simp only [List.idxOf_cons_self, names, List.length_map, List.length_take]
  omega
theorem findI_none {ts : List TaskD} {s : List UInt8} (hn : s ∉ names ts) : findI ts s = -1 := if_neg hn
theorem bne_list {a b : List UInt8} (h : a ≠ b) : ((sb a).toList == (sb b).toList) = false := by rw [sb_toList, sb_toList, beq_eq_false_iff_ne]; exact h
theorem beq_list {a b : List UInt8} (h : a = b) : ((sb a).toList == (sb b).toList) = true := by rw [h]; simp
theorem names_snoc {ts : List TaskD} {k : Nat} {t : TaskD} {s : List UInt8} (h : ts[k]? = some t) (hn : s ∉ names (ts.take k)) (hne : t.name ≠ s) : s ∉ names (ts.take (k + 1)) := by
  rw [names_take h, List.mem_append]
  rintro (h | h)
  · exact hn h
  · simp at h; exact hne h.symm

set_option maxHeartbeats 1600000 in
theorem rfind_any (f : FlowD) (A : Option Addr) (c : Nat) (w : World) (h : Tasks w A c f.tasks) (s : List UInt8) :
    Calls Tryd.prog 65 #[.agg #[.string (sb f.name), .int .i64 f.deadline, .int .i64 f.priority, .slice A f.tasks.length c], .string (sb s)] w fun e w' => e = .returned (.int .i64 (findI f.tasks s)) ∧ Below w.heap.size w w' := by
  have hlm := h.lenI
  have H := Lib.hid h; clear h
  go_enter Tryd.func65, Tryd.ntmps65
  go_wp2
  go_loopw [5] (fun i wr => ∃ (k : Nat), k ≤ f.tasks.length ∧ i = .int .i64 k ∧ Below w.heap.size w wr ∧ Hid (wr.heap[w.heap.size]? = some (flowO f A c)) ∧ Hid (s ∉ names (f.tasks.take k))) (fun i _ => f.tasks.length - (intOf i).toNat)
  case atStart => exact ⟨0, Nat.zero_le _, rfl, al _ _, Lib.hid (heap_alloc_new w _), Lib.hid (by simp [names])⟩
  case round =>
    obtain ⟨k, hk, rfl, hb, ho, hn⟩ := hrel
    obtain ⟨p0, p1, p2, p3, _⟩ := flowO_cells ho.out
    by_cases hlt : k < f.tasks.length
    · obtain ⟨t, ht⟩ : ∃ t, f.tasks[k]? = some t := ⟨_, List.getElem?_eq_getElem hlt⟩
      obtain ⟨b, off, A', c', rfl, h0, h1, h2, h3, h4, h5, _⟩ := (H.out.below hb).cells k _ ht
      by_cases hts : t.name = s
      · have hne := beq_list hts
        have HF := Lib.hid (findI_at ht hts hn.out)
        clear hts ht
        go_wp2
        go_ret
        exact ⟨by rw [HF.out]; rfl, hb⟩
      · have hne := bne_list hts
        have HN := Lib.hid (names_snoc ht hn.out hts)
        clear hts ht
        go_wp2
        go_roundw
        case rel => exact ⟨k + 1, by omega, by go_num, hb, ho, HN⟩
        case measure => simp [intOf]; omega
    · obtain rfl : k = f.tasks.length := by omega
      have HF := Lib.hid (findI_none (ts := f.tasks) (s := s) (by have := hn.out; rwa [List.take_length] at this))
      go_wp2
      go_ret
      exact ⟨by rw [HF.out]; rfl, hb⟩

/-- slices that hold the rows, wherever they lie -/
structure Held (w : World) (vs : List Value) (ls : List (List Int)) : Prop where
  len : vs.length = ls.length
  at_ : ∀ (j : Nat) xs, ls[j]? = some xs → ∃ A c, vs[j]? = some (.slice A xs.length c) ∧ Ints w A c xs
theorem Held.below {w w' : World} {vs : List Value} {ls : List (List Int)} (h : Held w vs ls) (hb : Below w.heap.size w w') : Held w' vs ls :=
  ⟨h.len, fun j xs hx => by obtain ⟨A, c, e, hi⟩ := h.at_ j xs hx; exact ⟨A, c, e, hi.below hb⟩⟩
theorem Held.snoc {w : World} {vs : List Value} {ls : List (List Int)} (h : Held w vs ls) {A : Option Addr} {c : Nat} {xs : List Int} (hi : Ints w A c xs) : Held w (vs ++ [.slice A xs.length c]) (ls ++ [xs]) := by
  refine ⟨by simp [h.len], fun j ys hj => ?_⟩
  rcases Nat.lt_or_ge j ls.length with hl | hl
  · rw [List.getElem?_append_left hl] at hj
    obtain ⟨A1, c1, e, h1⟩ := h.at_ j ys hj
    exact ⟨A1, c1, by rw [List.getElem?_append_left (by rw [h.len]; exact hl)]; exact e, h1⟩
  · rw [List.getElem?_append_right hl] at hj
    obtain hz : j - ls.length = 0 := by
      have := (List.getElem?_eq_some_iff.1 hj).1
      simp at this; omega
    rw [hz] at hj
    simp at hj
    subst hj
    exact ⟨A, c, by rw [List.getElem?_append_right (by rw [h.len]; exact hl), h.len, hz]; rfl, hi⟩
theorem Held.rows {w : World} {base n c : Nat} {A : Option Addr} {vs : List Value} {ls : List (List Int)} (h : Held w vs ls) (ho : Own1 w base 25 (.slice A n c) vs) : IRows w A c ls := by
  obtain ⟨hn, hs⟩ := Own1.sl ho
  refine ⟨fun k xs hk => ?_, by rw [← h.len]; exact hs.cap, hs.top, hs.nil⟩
  obtain ⟨A', c', e, hi⟩ := h.at_ k xs hk
  obtain ⟨b, off, e2, hc⟩ := hs.cells k _ e
  exact ⟨b, off, A', c', e2, hc, hi⟩
theorem afterL_snoc {ts : List TaskD} {k : Nat} {t : TaskD} (h : ts[k]? = some t) : afterL (ts.take (k + 1)) = afterL (ts.take k) ++ [t.after] := by
  unfold afterL
  rw [List.take_add_one, h]; simp

set_option maxHeartbeats 1600000 in
theorem rafter_any (f : FlowD) (A : Option Addr) (c : Nat) (w : World) (h : Tasks w A c f.tasks) (hn : f.tasks.length ≤ 1000000) :
    Calls Tryd.prog 67 #[.agg #[.string (sb f.name), .int .i64 f.deadline, .int .i64 f.priority, .slice A f.tasks.length c]] w fun e w' => ∃ A' c', e = .returned (.slice A' f.tasks.length c') ∧ IRows w' A' c' (afterL f.tasks) ∧ Below w.heap.size w w' := by
  have hlm := h.lenI
  have H := Lib.hid h; clear h
  go_enter Tryd.func67, Tryd.ntmps67
  go_wp2
  have hW0 := al w (.cells #[.string (sb f.name), .int .i64 f.deadline, .int .i64 f.priority, .slice A f.tasks.length c] 24)
  have hO0 : (w.alloc (.cells #[.string (sb f.name), .int .i64 f.deadline, .int .i64 f.priority, .slice A f.tasks.length c] 24)).heap[w.heap.size]? = some (flowO f A c) := heap_alloc_new w _
  have hs0 : (w.alloc (.cells #[.string (sb f.name), .int .i64 f.deadline, .int .i64 f.priority, .slice A f.tasks.length c] 24)).heap.size = w.heap.size + 1 := by simp
  generalize w.alloc (.cells #[.string (sb f.name), .int .i64 f.deadline, .int .i64 f.priority, .slice A f.tasks.length c] 24) = w0 at hW0 hO0 hs0 ⊢
  have HW0 := Lib.hid hW0; have HO0 := Lib.hid hO0; have HS0 := Lib.hid hs0
  clear hW0 hO0 hs0
  go_loopw [3, 4] (fun o i wr => ∃ (k : Nat) (A' : Option Addr) (c' : Nat) (vs : List Value), k ≤ f.tasks.length ∧ i = .int .i64 k ∧ o = .slice A' k c' ∧ Hid (Below w0.heap.size w0 wr) ∧ Hid (Own1 wr w0.heap.size 25 (.slice A' k c') vs) ∧ Hid (Held w0 vs (afterL (f.tasks.take k)))) (fun _ i _ => f.tasks.length - (intOf i).toNat)
  case atStart => exact ⟨0, none, 0, [], Nat.zero_le _, rfl, rfl, Lib.hid (Below.refl _ _), Lib.hid (Own1.nil _ _ _), Lib.hid ⟨rfl, fun j xs h => by simp [afterL] at h⟩⟩
  case round =>
    obtain ⟨k, A', c', vs, hk, rfl, rfl, HB, HO, HH⟩ := hrel
    obtain ⟨p0, p1, p2, p3, hp⟩ := flowO_cells ((HB.out.block _ (by rw [HS0.out]; omega)).trans HO0.out)
    by_cases hlt : k < f.tasks.length
    · obtain ⟨t, ht⟩ : ∃ t, f.tasks[k]? = some t := ⟨_, List.getElem?_eq_getElem hlt⟩
      obtain ⟨b, off, A3, c3, e3, _, _, _, _, _, g5, hi0⟩ := (H.out.below HW0.out).cells k _ ht
      obtain ⟨b, off, A3, c3, rfl, h0, h1, h2, h3, h4, h5, hi⟩ := ((H.out.below HW0.out).below HB.out).cells k _ ht
      have HI0 : Hid (Held w0 (vs ++ [.slice A3 t.after.length c3]) (afterL (f.tasks.take (k + 1)))) := Lib.hid (by
        rw [afterL_snoc ht]
        refine HH.out.snoc ?_
        injection e3 with e3; injection e3 with e1 e2
        subst e1 e2
        rw [keep_cell HB.out g5] at h5
        injection h5 with h5; injection h5 with h5 h6 h7
        subst h5 h7
        exact hi0)
      have hvl : vs.length = k := by rw [HH.out.len]; simp [afterL]; omega
      have HVL := Lib.hid hvl
      clear hi hi0 ht e3 g5 hvl
      go_wp2_with (at_builtin; refine Dag.wpList_appg rfl _ _ 60 25 (.slice none 0 0) 24 Tryd.underlying60 Dag.info_is rfl (by decide) rfl w0.heap.size (.slice A' k c') vs rfl (by exact HO.out.below (al _ _)) (some ⟨wr.heap.size, 0, none⟩) 1 1 [.slice A3 t.after.length c3] rfl rfl (Sl.one rfl) (by simp [Value.oneCell']) (by rw [HVL.out]; simp; omega) (by have := HB.out.size; simp; omega) ?_; intro l A8 c8 w9 el ho9 hg9 _ hb9; have EL := Lib.hid el; have hll2 : l.length = k + 1 := (by rw [el, List.length_append, HVL.out]; rfl); rw [hll2] at ho9; rw [hll2]; have HO9 := Lib.hid ho9; have HB9 := Lib.hid ((HB.out.trans (((al wr _).mono HB.out.size).trans hb9))); clear ho9 hg9 hb9 el hll2)
      go_roundw
      case rel =>
        refine ⟨k + 1, A8, c8, l, by omega, by go_num, rfl, HB9, HO9, Lib.hid ?_⟩
        rw [EL.out]; exact HI0.out
      case measure => simp [intOf]; omega
    · obtain rfl : k = f.tasks.length := by omega
      have HH1 : Hid (Held w0 vs (afterL f.tasks)) := Lib.hid (by have := HH.out; rwa [List.take_length] at this)
      go_wp2
      go_ret
      exact ⟨A', c', rfl, (HH1.out.below HB.out).rows HO.out, HW0.out.trans (HB.out.mono HW0.out.size)⟩

end Go.Proofs.YtgejonmjmieglaaDoor

