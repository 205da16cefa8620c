/- Layer 6 in plain words, the first part: tasks, workflows, numbers, links, the table of keywords. No program. -/
import Derived.Test.YtkicanegjkemoaaDoorDagA
import Derived.Test.YtkicanegjkemoaaDoorDagD
import Derived.Outline
namespace Go.Proofs.YtkicanegjkemoaaDoor
set_option linter.unusedVariables false

/-- texts are lists of bytes here -/
def sb (l : List UInt8) : ByteArray := ⟨l.toArray⟩
theorem sb_list (l : List UInt8) : (sb l).data.toList = l := by simp [sb]
theorem sb_data (s : ByteArray) : sb s.data.toList = s := by simp [sb]
theorem sb_inj {a b : List UInt8} (h : sb a = sb b) : a = b := by rw [← sb_list a, ← sb_list b, h]
theorem sb_size (l : List UInt8) : (sb l).size = l.length := by simp [sb, ByteArray.size]
structure TaskD where
  name : List UInt8
  nodes : Int
  wall : Int
  retry : Int
  done : Bool
  after : List Int
structure FlowD where
  name : List UInt8
  deadline : Int
  priority : Int
  tasks : List TaskD

def inR (a b n : Int) : Bool := decide (a ≤ n) && decide (n ≤ b)
def maxT : Int := 1099511627775
def numsOK (t : TaskD) : Bool := inR 1 10000 t.nodes && (inR 1 maxT t.wall && inR 0 20 t.retry)
def numbersOK (f : FlowD) : Bool := f.tasks.all numsOK && (inR 0 maxT f.deadline && inR 0 1000 f.priority)
def names (ts : List TaskD) : List (List UInt8) := ts.map TaskD.name
def twins (ts : List TaskD) : Bool := !decide (names ts).Nodup
def riseL (n : Nat) : Int → List Int → Bool
  | _, [] => true
  | last, v :: l => decide (last < v) && (decide (v < (n : Int)) && riseL n v l)
def linkOK (n : Nat) (l : List Int) : Bool := riseL n (-1) l
def linksOK (ts : List TaskD) : Bool := ts.all fun t => linkOK ts.length t.after
def afterL (ts : List TaskD) : List (List Int) := ts.map TaskD.after

/-! the table of keywords -/
def kwB : Nat → List UInt8
  | 0 => [87, 79, 82, 75, 70, 76, 79, 87]
  | 1 => [68, 69, 65, 68, 76, 73, 78, 69]
  | 2 => [80, 82, 73, 79, 82, 73, 84, 89]
  | 3 => [74, 79, 66]
  | 4 => [78, 79, 68, 69, 83]
  | 5 => [87, 65, 76, 76, 84, 73, 77, 69]
  | 6 => [82, 69, 84, 82, 89]
  | 7 => [68, 79, 78, 69]
  | 8 => [80, 65, 82, 69, 78, 84]
  | _ => []
def wordsN : Nat → Int
  | 4 => 2 | 5 => 2 | 6 => 2 | 8 => -1 | 0 => 1 | 1 => 1 | 2 => 1 | 3 => 1 | 7 => 1 | _ => 0
def leastN : Nat → Int
  | 4 => 1 | 5 => 1 | _ => 0
def mostN : Nat → Int
  | 1 => 1099511627775 | 2 => 1000 | 4 => 10000 | 5 => 1099511627775 | 6 => 20 | _ => 0

end Go.Proofs.YtkicanegjkemoaaDoor

/- Tasks and workflows in memory. -/
namespace Go.Proofs.YtkicanegjkemoaaDoor
open Go.RowKit
set_option linter.unusedVariables false
set_option maxRecDepth 100000

theorem sb_toList (l : List UInt8) : (sb l).toList = l := by rw [ByteArray.toList_eq]; simp [sb]
/-- '.slice A ts.length c' holds the tasks ts -/
structure Tasks (w : World) (A : Option Addr) (c : Nat) (ts : List TaskD) : Prop where
  cells : ∀ k t, ts[k]? = some t → ∃ b off A' c', A = some ⟨b, off, none⟩ ∧ w.cell? ⟨b, off + k * 6, none⟩ = some (.string (sb t.name)) ∧ w.cell? ⟨b, off + k * 6 + 1, none⟩ = some (.int .i64 t.nodes) ∧
    w.cell? ⟨b, off + k * 6 + 2, none⟩ = some (.int .i64 t.wall) ∧ w.cell? ⟨b, off + k * 6 + 3, none⟩ = some (.int .i64 t.retry) ∧ w.cell? ⟨b, off + k * 6 + 4, none⟩ = some (.bool t.done) ∧
    w.cell? ⟨b, off + k * 6 + 5, none⟩ = some (.slice A' t.after.length c') ∧ Dag.Ints w A' c' t.after
  cap : ts.length ≤ c
  top : c ≤ maxLen
  nil : A = none → c = 0
  nm : ∀ t ∈ ts, t.name.length ≤ maxLen
section
variable {w w' : World} {A : Option Addr} {c : Nat} {ts : List TaskD}
theorem Tasks.empty (w : World) : Tasks w none 0 [] := ⟨fun k x h => by simp at h, Nat.le_refl _, Nat.zero_le _, fun _ => rfl, fun t h => by simp at h⟩
theorem Tasks.lenI (h : Tasks w A c ts) : ts.length ≤ 9223372036854775807 := Nat.le_trans h.cap (by have := h.top; simpa [maxLen] using this)
theorem Tasks.below (h : Tasks w A c ts) (hb : Below w.heap.size w w') : Tasks w' A c ts := by
  refine ⟨fun k x hx => ?_, h.cap, h.top, h.nil, h.nm⟩
  obtain ⟨b, off, A', c', e, h0, h1, h2, h3, h4, h5, hi⟩ := h.cells k x hx
  have kp : ∀ o v, w.cell? ⟨b, o, none⟩ = some v → w'.cell? ⟨b, o, none⟩ = some v := fun o v hc => (hb.cell (p := ⟨b, o, none⟩) (World.block_lt_of_cell? w _ hc)).trans hc
  exact ⟨b, off, A', c', e, kp _ _ h0, kp _ _ h1, kp _ _ h2, kp _ _ h3, kp _ _ h4, kp _ _ h5, hi.below hb⟩
end

/-- a task as a value -/
def taskV (t : TaskD) (A : Option Addr) (c : Nat) : Value := .agg #[.string (sb t.name), .int .i64 t.nodes, .int .i64 t.wall, .int .i64 t.retry, .bool t.done, .slice A t.after.length c]
/-- the program's table of keywords -/
def TabS (w : World) : Prop := ∀ k, k < 9 → w.cell? ⟨0, k * 4, none⟩ = some (.string (sb (kwB k))) ∧ w.cell? ⟨0, k * 4 + 1, none⟩ = some (.int .i64 (wordsN k)) ∧
  w.cell? ⟨0, k * 4 + 2, none⟩ = some (.int .i64 (leastN k)) ∧ w.cell? ⟨0, k * 4 + 3, none⟩ = some (.int .i64 (mostN k))
theorem TabS.below {w w' : World} (h : TabS w) (hb : Below w.heap.size w w') : TabS w' := by
  intro k hk
  obtain ⟨h0, h1, h2, h3⟩ := h k hk
  have kp : ∀ o v, w.cell? ⟨0, o, none⟩ = some v → w'.cell? ⟨0, o, none⟩ = some v := fun o v hc => (hb.cell (p := ⟨_, o, none⟩) (World.block_lt_of_cell? w _ hc)).trans hc
  exact ⟨kp _ _ h0, kp _ _ h1, kp _ _ h2, kp _ _ h3⟩
theorem TabS.s0 {w : World} (h : TabS w) : w.cell? ⟨0, 0, none⟩ = some (.string (sb (kwB 0))) ∧ w.cell? ⟨0, 1, none⟩ = some (.int .i64 1) ∧ w.cell? ⟨0, 2, none⟩ = some (.int .i64 0) ∧ w.cell? ⟨0, 3, none⟩ = some (.int .i64 0) := h 0 (by decide)
theorem TabS.s1 {w : World} (h : TabS w) : w.cell? ⟨0, 4, none⟩ = some (.string (sb (kwB 1))) ∧ w.cell? ⟨0, 5, none⟩ = some (.int .i64 1) ∧ w.cell? ⟨0, 6, none⟩ = some (.int .i64 0) ∧ w.cell? ⟨0, 7, none⟩ = some (.int .i64 1099511627775) := h 1 (by decide)
theorem TabS.s2 {w : World} (h : TabS w) : w.cell? ⟨0, 8, none⟩ = some (.string (sb (kwB 2))) ∧ w.cell? ⟨0, 9, none⟩ = some (.int .i64 1) ∧ w.cell? ⟨0, 10, none⟩ = some (.int .i64 0) ∧ w.cell? ⟨0, 11, none⟩ = some (.int .i64 1000) := h 2 (by decide)
theorem TabS.s3 {w : World} (h : TabS w) : w.cell? ⟨0, 12, none⟩ = some (.string (sb (kwB 3))) ∧ w.cell? ⟨0, 13, none⟩ = some (.int .i64 1) ∧ w.cell? ⟨0, 14, none⟩ = some (.int .i64 0) ∧ w.cell? ⟨0, 15, none⟩ = some (.int .i64 0) := h 3 (by decide)
theorem TabS.s4 {w : World} (h : TabS w) : w.cell? ⟨0, 16, none⟩ = some (.string (sb (kwB 4))) ∧ w.cell? ⟨0, 17, none⟩ = some (.int .i64 2) ∧ w.cell? ⟨0, 18, none⟩ = some (.int .i64 1) ∧ w.cell? ⟨0, 19, none⟩ = some (.int .i64 10000) := h 4 (by decide)
theorem TabS.s5 {w : World} (h : TabS w) : w.cell? ⟨0, 20, none⟩ = some (.string (sb (kwB 5))) ∧ w.cell? ⟨0, 21, none⟩ = some (.int .i64 2) ∧ w.cell? ⟨0, 22, none⟩ = some (.int .i64 1) ∧ w.cell? ⟨0, 23, none⟩ = some (.int .i64 1099511627775) := h 5 (by decide)
theorem TabS.s6 {w : World} (h : TabS w) : w.cell? ⟨0, 24, none⟩ = some (.string (sb (kwB 6))) ∧ w.cell? ⟨0, 25, none⟩ = some (.int .i64 2) ∧ w.cell? ⟨0, 26, none⟩ = some (.int .i64 0) ∧ w.cell? ⟨0, 27, none⟩ = some (.int .i64 20) := h 6 (by decide)
theorem TabS.s7 {w : World} (h : TabS w) : w.cell? ⟨0, 28, none⟩ = some (.string (sb (kwB 7))) ∧ w.cell? ⟨0, 29, none⟩ = some (.int .i64 1) ∧ w.cell? ⟨0, 30, none⟩ = some (.int .i64 0) ∧ w.cell? ⟨0, 31, none⟩ = some (.int .i64 0) := h 7 (by decide)
theorem TabS.s8 {w : World} (h : TabS w) : w.cell? ⟨0, 32, none⟩ = some (.string (sb (kwB 8))) ∧ w.cell? ⟨0, 33, none⟩ = some (.int .i64 (-1)) ∧ w.cell? ⟨0, 34, none⟩ = some (.int .i64 0) ∧ w.cell? ⟨0, 35, none⟩ = some (.int .i64 0) := h 8 (by decide)
theorem TabS.lt {w : World} (h : TabS w) : 0 < w.heap.size := World.block_lt_of_cell? w _ h.s0.1
theorem blw {w w1 w2 : World} (h : Below w.heap.size w w1) (k : Below w1.heap.size w1 w2) : Below w.heap.size w w2 := h.trans (k.mono h.size)
theorem al (w : World) (o : Obj) : Below w.heap.size w (w.alloc o) := (Below.refl _ _).alloc (Nat.le_refl _) _
theorem bl_cells {W w1 : World} (hb : Below W.heap.size W w1) : (∀ b o, b < W.heap.size → w1.cell? ⟨b, o, none⟩ = W.cell? ⟨b, o, none⟩) ∧ (∀ b o, b < W.heap.size → w1.frozen? ⟨b, o, none⟩ = W.frozen? ⟨b, o, none⟩) :=
  ⟨fun b o h => hb.cell (p := ⟨b, o, none⟩) h, fun b o h => hb.frozen (p := ⟨b, o, none⟩) h⟩

end Go.Proofs.YtkicanegjkemoaaDoor


