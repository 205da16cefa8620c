/- Layer 6 in plain words, the first part: tasks, workflows, numbers, links, the table of keywords. No program.
   Layer 6 in plain words: tasks, workflows, whether one may be, lines, texts. No program.
   A map from names to numbers that the program makes.
   What each task waits for, as rows of its own; a copy of a row. -/
import Derived.Test.YtgejonmjmieglaaDoorMDag
import Derived.Outline
import Derived.Test.YtgejonmjmieglaaDoorMTxt
import Derived.Maps.Own
import Derived.Maps.OwnOps
import Derived.Maps.OwnSet
import Derived.StringKeys
import Derived.Lib.SliceRun
namespace Go.Proofs.YtgejonmjmieglaaDoor
set_option linter.unusedVariables false

/-- texts are lists of bytes here -/
def sb (l : List UInt8) : ByteArray := ⟨l.toArray⟩
theorem sb_list (l : List UInt8) : (sb l).data.toList = l := by simp [sb]
theorem sb_data (s : ByteArray) : sb s.data.toList = s := by simp [sb]
theorem sb_inj {a b : List UInt8} (h : sb a = sb b) : a = b := by rw [← sb_list a, ← sb_list b, h]
theorem sb_size (l : List UInt8) : (sb l).size = l.length := by simp [sb, ByteArray.size]
structure TaskD where
  name : List UInt8
  nodes : Int
  wall : Int
  retry : Int
  done : Bool
  after : List Int
structure FlowD where
  name : List UInt8
  deadline : Int
  priority : Int
  tasks : List TaskD

def inR (a b n : Int) : Bool := decide (a ≤ n) && decide (n ≤ b)
def maxT : Int := 1099511627775
def numsOK (t : TaskD) : Bool := inR 1 10000 t.nodes && (inR 1 maxT t.wall && inR 0 20 t.retry)
def numbersOK (f : FlowD) : Bool := f.tasks.all numsOK && (inR 0 maxT f.deadline && inR 0 1000 f.priority)
def names (ts : List TaskD) : List (List UInt8) := ts.map TaskD.name
def twins (ts : List TaskD) : Bool := !decide (names ts).Nodup
def riseL (n : Nat) : Int → List Int → Bool
  | _, [] => true
  | last, v :: l => decide (last < v) && (decide (v < (n : Int)) && riseL n v l)
def linkOK (n : Nat) (l : List Int) : Bool := riseL n (-1) l
def linksOK (ts : List TaskD) : Bool := ts.all fun t => linkOK ts.length t.after
def afterL (ts : List TaskD) : List (List Int) := ts.map TaskD.after

/-! the table of keywords -/
def kwB : Nat → List UInt8
  | 0 => [87, 79, 82, 75, 70, 76, 79, 87]
  | 1 => [68, 69, 65, 68, 76, 73, 78, 69]
  | 2 => [80, 82, 73, 79, 82, 73, 84, 89]
  | 3 => [74, 79, 66]
  | 4 => [78, 79, 68, 69, 83]
  | 5 => [87, 65, 76, 76, 84, 73, 77, 69]
  | 6 => [82, 69, 84, 82, 89]
  | 7 => [68, 79, 78, 69]
  | 8 => [80, 65, 82, 69, 78, 84]
  | _ => []
def wordsN : Nat → Int
  | 4 => 2 | 5 => 2 | 6 => 2 | 8 => -1 | 0 => 1 | 1 => 1 | 2 => 1 | 3 => 1 | 7 => 1 | _ => 0
def leastN : Nat → Int
  | 4 => 1 | 5 => 1 | _ => 0
def mostN : Nat → Int
  | 1 => 1099511627775 | 2 => 1000 | 4 => 10000 | 5 => 1099511627775 | 6 => 20 | _ => 0

end Go.Proofs.YtgejonmjmieglaaDoor

/- Tasks and workflows in memory. -/
namespace Go.Proofs.YtgejonmjmieglaaDoor
open Go.RowKit
set_option linter.unusedVariables false
set_option maxRecDepth 100000

theorem sb_toList (l : List UInt8) : (sb l).toList = l := by rw [ByteArray.toList_eq]; simp [sb]
/-- '.slice A ts.length c' holds the tasks ts -/
structure Tasks (w : World) (A : Option Addr) (c : Nat) (ts : List TaskD) : Prop where
  cells : ∀ k t, ts[k]? = some t → ∃ b off A' c', A = some ⟨b, off, none⟩ ∧ w.cell? ⟨b, off + k * 6, none⟩ = some (.string (sb t.name)) ∧ w.cell? ⟨b, off + k * 6 + 1, none⟩ = some (.int .i64 t.nodes) ∧
    w.cell? ⟨b, off + k * 6 + 2, none⟩ = some (.int .i64 t.wall) ∧ w.cell? ⟨b, off + k * 6 + 3, none⟩ = some (.int .i64 t.retry) ∧ w.cell? ⟨b, off + k * 6 + 4, none⟩ = some (.bool t.done) ∧
    w.cell? ⟨b, off + k * 6 + 5, none⟩ = some (.slice A' t.after.length c') ∧ Dag.Ints w A' c' t.after
  cap : ts.length ≤ c
  top : c ≤ maxLen
  nil : A = none → c = 0
  nm : ∀ t ∈ ts, t.name.length ≤ maxLen
section
variable {w w' : World} {A : Option Addr} {c : Nat} {ts : List TaskD}
theorem Tasks.empty (w : World) : Tasks w none 0 [] := ⟨fun k x h => by simp at h, Nat.le_refl _, Nat.zero_le _, fun _ => rfl, fun t h => by simp at h⟩
theorem Tasks.lenI (h : Tasks w A c ts) : ts.length ≤ 9223372036854775807 := Nat.le_trans h.cap (by have := h.top; simpa [maxLen] using this)
theorem Tasks.below (h : Tasks w A c ts) (hb : Below w.heap.size w w') : Tasks w' A c ts := by
  refine ⟨fun k x hx => ?_, h.cap, h.top, h.nil, h.nm⟩
  obtain ⟨b, off, A', c', e, h0, h1, h2, h3, h4, h5, hi⟩ := h.cells k x hx
  have kp : ∀ o v, w.cell? ⟨b, o, none⟩ = some v → w'.cell? ⟨b, o, none⟩ = some v := fun o v hc => (hb.cell (p := ⟨b, o, none⟩) (World.block_lt_of_cell? w _ hc)).trans hc
  exact ⟨b, off, A', c', e, kp _ _ h0, kp _ _ h1, kp _ _ h2, kp _ _ h3, kp _ _ h4, kp _ _ h5, hi.below hb⟩
end

/-- a task as a value -/
def taskV (t : TaskD) (A : Option Addr) (c : Nat) : Value := .agg #[.string (sb t.name), .int .i64 t.nodes, .int .i64 t.wall, .int .i64 t.retry, .bool t.done, .slice A t.after.length c]
/-- the program's table of keywords -/
def TabS (w : World) : Prop := ∀ k, k < 9 → w.cell? ⟨0, k * 4, none⟩ = some (.string (sb (kwB k))) ∧ w.cell? ⟨0, k * 4 + 1, none⟩ = some (.int .i64 (wordsN k)) ∧
  w.cell? ⟨0, k * 4 + 2, none⟩ = some (.int .i64 (leastN k)) ∧ w.cell? ⟨0, k * 4 + 3, none⟩ = some (.int .i64 (mostN k))
theorem TabS.below {w w' : World} (h : TabS w) (hb : Below w.heap.size w w') : TabS w' := by
  intro k hk
  obtain ⟨h0, h1, h2, h3⟩ := h k hk
  have kp : ∀ o v, w.cell? ⟨0, o, none⟩ = some v → w'.cell? ⟨0, o, none⟩ = some v := fun o v hc => (hb.cell (p := ⟨_, o, none⟩) (World.block_lt_of_cell? w _ hc)).trans hc
  exact ⟨kp _ _ h0, kp _ _ h1, kp _ _ h2, kp _ _ h3⟩
theorem TabS.s0 {w : World} (h : TabS w) : w.cell? ⟨0, 0, none⟩ = some (.string (sb (kwB 0))) ∧ w.cell? ⟨0, 1, none⟩ = some (.int .i64 1) ∧ w.cell? ⟨0, 2, none⟩ = some (.int .i64 0) ∧ w.cell? ⟨0, 3, none⟩ = some (.int .i64 0) := h 0 (by decide)
theorem TabS.s1 {w : World} (h : TabS w) : w.cell? ⟨0, 4, none⟩ = some (.string (sb (kwB 1))) ∧ w.cell? ⟨0, 5, none⟩ = some (.int .i64 1) ∧ w.cell? ⟨0, 6, none⟩ = some (.int .i64 0) ∧ w.cell? ⟨0, 7, none⟩ = some (.int .i64 1099511627775) := h 1 (by decide)
theorem TabS.s2 {w : World} (h : TabS w) : w.cell? ⟨0, 8, none⟩ = some (.string (sb (kwB 2))) ∧ w.cell? ⟨0, 9, none⟩ = some (.int .i64 1) ∧ w.cell? ⟨0, 10, none⟩ = some (.int .i64 0) ∧ w.cell? ⟨0, 11, none⟩ = some (.int .i64 1000) := h 2 (by decide)
theorem TabS.s3 {w : World} (h : TabS w) : w.cell? ⟨0, 12, none⟩ = some (.string (sb (kwB 3))) ∧ w.cell? ⟨0, 13, none⟩ = some (.int .i64 1) ∧ w.cell? ⟨0, 14, none⟩ = some (.int .i64 0) ∧ w.cell? ⟨0, 15, none⟩ = some (.int .i64 0) := h 3 (by decide)
theorem TabS.s4 {w : World} (h : TabS w) : w.cell? ⟨0, 16, none⟩ = some (.string (sb (kwB 4))) ∧ w.cell? ⟨0, 17, none⟩ = some (.int .i64 2) ∧ w.cell? ⟨0, 18, none⟩ = some (.int .i64 1) ∧ w.cell? ⟨0, 19, none⟩ = some (.int .i64 10000) := h 4 (by decide)
theorem TabS.s5 {w : World} (h : TabS w) : w.cell? ⟨0, 20, none⟩ = some (.string (sb (kwB 5))) ∧ w.cell? ⟨0, 21, none⟩ = some (.int .i64 2) ∧ w.cell? ⟨0, 22, none⟩ = some (.int .i64 1) ∧ w.cell? ⟨0, 23, none⟩ = some (.int .i64 1099511627775) := h 5 (by decide)
theorem TabS.s6 {w : World} (h : TabS w) : w.cell? ⟨0, 24, none⟩ = some (.string (sb (kwB 6))) ∧ w.cell? ⟨0, 25, none⟩ = some (.int .i64 2) ∧ w.cell? ⟨0, 26, none⟩ = some (.int .i64 0) ∧ w.cell? ⟨0, 27, none⟩ = some (.int .i64 20) := h 6 (by decide)
theorem TabS.s7 {w : World} (h : TabS w) : w.cell? ⟨0, 28, none⟩ = some (.string (sb (kwB 7))) ∧ w.cell? ⟨0, 29, none⟩ = some (.int .i64 1) ∧ w.cell? ⟨0, 30, none⟩ = some (.int .i64 0) ∧ w.cell? ⟨0, 31, none⟩ = some (.int .i64 0) := h 7 (by decide)
theorem TabS.s8 {w : World} (h : TabS w) : w.cell? ⟨0, 32, none⟩ = some (.string (sb (kwB 8))) ∧ w.cell? ⟨0, 33, none⟩ = some (.int .i64 (-1)) ∧ w.cell? ⟨0, 34, none⟩ = some (.int .i64 0) ∧ w.cell? ⟨0, 35, none⟩ = some (.int .i64 0) := h 8 (by decide)
theorem TabS.lt {w : World} (h : TabS w) : 0 < w.heap.size := World.block_lt_of_cell? w _ h.s0.1
theorem blw {w w1 w2 : World} (h : Below w.heap.size w w1) (k : Below w1.heap.size w1 w2) : Below w.heap.size w w2 := h.trans (k.mono h.size)
theorem al (w : World) (o : Obj) : Below w.heap.size w (w.alloc o) := (Below.refl _ _).alloc (Nat.le_refl _) _
theorem bl_cells {W w1 : World} (hb : Below W.heap.size W w1) : (∀ b o, b < W.heap.size → w1.cell? ⟨b, o, none⟩ = W.cell? ⟨b, o, none⟩) ∧ (∀ b o, b < W.heap.size → w1.frozen? ⟨b, o, none⟩ = W.frozen? ⟨b, o, none⟩) :=
  ⟨fun b o h => hb.cell (p := ⟨b, o, none⟩) h, fun b o h => hb.frozen (p := ⟨b, o, none⟩) h⟩

end Go.Proofs.YtgejonmjmieglaaDoor
namespace Go.Proofs.YtgejonmjmieglaaDoor
open Txt (bs nameD sameS wordsE wordsV linesE linesV)
open Clk (isT readE readV textL)
open Dag (newE num)
set_option linter.unusedVariables false

def childW : (List UInt8) := [67, 72, 73, 76, 68]
def taskName (s : (List UInt8)) : Bool := nameD s && !sameS s childW
def namesOK (f : FlowD) : Bool := f.tasks.all (fun t => taskName t.name) && nameD f.name
def checkE (f : FlowD) : Int :=
  if namesOK f = false then 5 else if numbersOK f = false then 2 else if twins f.tasks = true then 51 else if 4096 < f.tasks.length then 3 else if linksOK f.tasks = false then 2 else newE (afterL f.tasks)

/-! lines -/
def isKw (k : Nat) (s : (List UInt8)) : Bool := sameS (kwB k) s
/-- the index of a keyword -/
def keyOf? (s : (List UInt8)) : Option Nat := (List.range 9).find? fun k => isKw k s
def isChild (s : (List UInt8)) : Bool := sameS s childW
/-- the words of a PARENT line -/
def famD (l : List (List UInt8)) : Option (List (List UInt8)) :=
  let at_ := l.findIdx isChild
  if at_ = 0 ∨ l.length ≤ at_ + 1 ∨ (l.drop (at_ + 1)).any isChild = true then none else some (l.set at_ childW)
/-- a line of words, at least one -/
def classD (h : (List UInt8)) (l : List (List UInt8)) : Option (Nat × List (List UInt8)) :=
  match keyOf? h with
  | none => none
  | some 8 => (famD l).map fun x => (8, x)
  | some k => if (l.length : Int) = wordsN k then some (k, l) else none
def lineKw (l : List (List UInt8)) : (List UInt8) := match l with
  | [] => []
  | h :: t => match classD h t with
    | none => []
    | some (k, _) => kwB k
def lineWs (l : List (List UInt8)) : List (List UInt8) := match l with
  | [] => []
  | h :: t => match classD h t with
    | none => []
    | some (_, x) => x
def lineE (l : List (List UInt8)) : Int := match l with
  | [] => 0
  | h :: t => match classD h t with
    | none => 50
    | some _ => 0

/-! texts -/
def upB (f : Nat → Bool) (k j : Nat) : Bool := j == k || f j
structure TaskP where
  name : (List UInt8)
  nodes : Int
  wall : Int
  retry : Int
  done : Bool
  told : Nat → Bool
structure St where
  name : (List UInt8)
  deadline : Int
  priority : Int
  had : Nat → Bool
  tasks : List TaskP
  links : List (List Nat × List Nat)
def no9 (_ : Nat) : Bool := false
def St.start : St := ⟨[], 0, 0, no9, [], []⟩
def numE (k : Nat) (s : (List UInt8)) : Int := if readE s ≠ 0 then readE s else if inR (leastN k) (mostN k) (readV s) = true then 0 else 2
def namesP (ts : List TaskP) : List (List UInt8) := ts.map TaskP.name
def newTask (n : (List UInt8)) : TaskP := ⟨n, 1, 1, 0, false, no9⟩
/-- told of it, once -/
def TaskP.mark (t : TaskP) (k : Nat) : TaskP := { t with told := upB t.told k }
def TaskP.put (t : TaskP) (k : Nat) (n : Int) : TaskP :=
  match k with
  | 4 => { t with nodes := n }
  | 5 => { t with wall := n }
  | 6 => { t with retry := n }
  | _ => { t with done := true }
def idxs (ns : List (List UInt8)) (l : List (List UInt8)) : Option (List Nat) := if l.all (fun s => decide (s ∈ ns)) = true then some (l.map fun s => ns.idxOf s) else none
def beginSt (s : St) (a : List UInt8) : Except Int St :=
  if s.had 0 = true then .error 51 else if nameD a = false then .error 5 else .ok { s with name := a, had := upB s.had 0 }
def setSt (s : St) (k : Nat) (a : List UInt8) : Except Int St :=
  if s.had k = true then .error 51 else if numE k a ≠ 0 then .error (numE k a) else
  .ok (if k = 1 then { s with deadline := readV a, had := upB s.had 1 } else { s with priority := readV a, had := upB s.had 2 })
def jobSt (s : St) (a : List UInt8) : Except Int St :=
  if taskName a = false then .error 5 else if a ∈ namesP s.tasks then .error 51 else .ok { s with tasks := s.tasks ++ [newTask a] }
def parSt (s : St) (l : List (List UInt8)) : Except Int St :=
  match idxs (namesP s.tasks) (l.take (l.idxOf childW)), idxs (namesP s.tasks) (l.drop (l.idxOf childW + 1)) with
    | some p, some c => .ok { s with links := s.links ++ [(p, c)] }
    | _, _ => .error 52
/-- a line of task t, which is the v-th -/
def telSt (s : St) (k v : Nat) (t : TaskP) (r : List (List UInt8)) : Except Int St :=
  if t.told k = true then .error 51 else
  if k = 7 then .ok { s with tasks := s.tasks.set v ((t.mark 7).put 7 0) } else
  match r with
  | [] => .error 50
  | b :: _ => if numE k b ≠ 0 then .error (numE k b) else .ok { s with tasks := s.tasks.set v ((t.mark k).put k (readV b)) }
def taskSt (s : St) (k : Nat) (a : List UInt8) (r : List (List UInt8)) : Except Int St :=
  if a ∈ namesP s.tasks then
    match s.tasks[(namesP s.tasks).idxOf a]? with
    | none => .error 52
    | some t => telSt s k ((namesP s.tasks).idxOf a) t r
  else .error 52
def addSt (s : St) (k : Nat) (l : List (List UInt8)) : Except Int St :=
  if k ≠ 0 ∧ s.had 0 = false then .error 50 else
  if k = 8 then parSt s l else
  match l with
  | [] => .error 50
  | a :: r => if k = 0 then beginSt s a else if k = 1 ∨ k = 2 then setSt s k a else if k = 3 then jobSt s a else taskSt s k a r
/-- a line with words -/
def addW (s : St) (h : (List UInt8)) (t : List (List UInt8)) : Except Int St :=
  match classD h t with
  | none => .error 50
  | some (k, l) => addSt s k l
/-- one line -/
def lineSt (s : St) (l : List UInt8) : Except Int St :=
  if wordsE l ≠ 0 then .error (wordsE l) else
  match wordsV l with
  | [] => .ok s
  | h :: t => addW s h t
def feed : St → Nat → List (List UInt8) → (Nat × Int) ⊕ St
  | s, _, [] => .inr s
  | s, i, l :: ls => match lineSt s l with
    | .error e => .inl (i + 1, e)
    | .ok s' => feed s' (i + 1) ls
/-- who waits for whom -/
def aft (links : List (List Nat × List Nat)) (n w : Nat) : List Nat := (List.range n).filter fun v => links.any fun k => decide (v ∈ k.1) && decide (w ∈ k.2)
def TaskP.full (links : List (List Nat × List Nat)) (n w : Nat) (t : TaskP) : TaskD := ⟨t.name, t.nodes, t.wall, t.retry, t.done, num (aft links n w)⟩
def fullL (links : List (List Nat × List Nat)) (n : Nat) : Nat → List TaskP → List TaskD
  | _, [] => []
  | w, t :: ts => t.full links n w :: fullL links n (w + 1) ts
def St.flow (s : St) : FlowD := ⟨s.name, s.deadline, s.priority, fullL s.links s.tasks.length 0 s.tasks⟩
def noFlow : FlowD := ⟨[], 0, 0, []⟩
def parseD (l : List UInt8) : FlowD × Nat × Int :=
  if linesE l ≠ 0 then (noFlow, 0, linesE l) else
  match feed St.start 0 (linesV l) with
  | .inl (i, e) => (noFlow, i, e)
  | .inr s => if s.had 0 = false then (noFlow, 0, 50) else if checkE s.flow ≠ 0 then (noFlow, 0, checkE s.flow) else (s.flow, 0, 0)

/-! the text of a workflow -/
def spL : List (List UInt8) → List UInt8
  | [] => []
  | w :: ws => 32 :: w ++ spL ws
/-- one line: a keyword, and words -/
def lnL (k : Nat) (ws : List (List UInt8)) : List UInt8 := kwB k ++ 32 :: (Txt.joinL ws ++ [10])
def numL (k : Nat) (n : Int) (pre : List (List UInt8)) : List UInt8 := if n ≠ leastN k then lnL k (pre ++ [textL n]) else []
def taskL (t : TaskD) : List UInt8 :=
  lnL 3 [t.name] ++ (numL 4 t.nodes [t.name] ++ (numL 5 t.wall [t.name] ++ (numL 6 t.retry [t.name] ++ if t.done = true then lnL 7 [t.name] else [])))
def nameAt (ts : List TaskD) (v : Int) : List UInt8 := match ts[v.toNat]? with
  | some t => t.name
  | none => []
def parL (ts : List TaskD) (t : TaskD) : List UInt8 := if t.after = [] then [] else lnL 8 (t.after.map (nameAt ts) ++ [childW, t.name])
def flatL {α : Type} (g : α → List UInt8) : List α → List UInt8
  | [] => []
  | x :: r => g x ++ flatL g r
def printL (f : FlowD) : List UInt8 :=
  lnL 0 [f.name] ++ (numL 1 f.deadline [] ++ (numL 2 f.priority [] ++ (flatL taskL f.tasks ++ flatL (parL f.tasks) f.tasks)))

end Go.Proofs.YtgejonmjmieglaaDoor
namespace Go.Proofs.YtgejonmjmieglaaDoor
open Go.RowKit Go.Maps Go.WideMaps
set_option linter.unusedVariables false
set_option maxRecDepth 100000

theorem keyed_str : Keyed Tryd.prog 9 := string_keyed Tryd.underlying9
theorem zero_int (w : World) : (zeroValue 3).run Tryd.prog w = .ok (.int .i64 0) w := by kernel_rfl
def keyL (s : List UInt8) : Lit := .string s
theorem keyL_is (s : List UInt8) : WideAt.IsKeyLit (keyL s) := trivial
theorem keyL_ne {a b : List UInt8} (h : a ≠ b) : keyL a ≠ keyL b := by
  intro e
  injection e with e
  exact h e
theorem keyL_of {s : List UInt8} (h : s.length ≤ maxLen) : keyOf Tryd.prog 9 (.string (sb s)) = some (keyL s) := by
  rw [keyOf_string_mk Tryd.underlying9 (by rw [sb_size]; exact h), sb_list]; rfl
theorem run_makeMapH (w : World) (n : Int) : (Instr.makeMap 100 (some (.int .i64 n))).run Tryd.prog w = .ok (.map (some w.heap.size)) (w.alloc (.map #[] 0)) := by kernel_rfl

abbrev OwnM (w : World) (b n : Nat) (D : DataW Unit) : Prop := w.ownsMap Tryd.prog 9 (plainElem Tryd.prog 3) b n D
/-- block b is a map that holds, for each name, what g says -/
structure MapAt (w : World) (b n : Nat) (g : List UInt8 → Option Int) (m : Nat) : Prop where
  ex : ∃ D : DataW Unit, OwnM w b n D ∧ (∀ s, Maps.has D (keyL s) = (g s).isSome) ∧ (∀ s, D.atKey (keyL s) (.lit (.int .i64 0)) = .lit (.int .i64 ((g s).getD 0))) ∧ Maps.size D = m
def updM (g : List UInt8 → Option Int) (s : List UInt8) (x : Int) (t : List UInt8) : Option Int := if t = s then some x else g t
theorem MapAt.made (w : World) : MapAt (w.alloc (.map #[] 0)) w.heap.size 0 (fun _ => none) 0 :=
  ⟨.map [], World.ownsMap_made _ _ _ _, fun s => rfl, fun s => rfl, rfl⟩
theorem MapAt.lt {w : World} {b n m : Nat} {g : List UInt8 → Option Int} (h : MapAt w b n g m) : b < w.heap.size := by
  obtain ⟨D, h, _⟩ := h.ex
  exact h.lt
theorem MapAt.keep {w w' : World} {b n m : Nat} {g : List UInt8 → Option Int} (h : MapAt w b n g m) (hk : w'.heap[b]? = w.heap[b]?) : MapAt w' b n g m := by
  obtain ⟨D, ⟨es, clock, hb, r⟩, rest⟩ := h.ex
  exact ⟨D, ⟨es, clock, by rw [hk]; exact hb, r⟩, rest⟩
theorem MapAt.below {w w' : World} {b n m : Nat} {g : List UInt8 → Option Int} (h : MapAt w b n g m) (hb : Below w.heap.size w w') : MapAt w' b n g m := h.keep (hb.block b h.lt)
theorem MapAt.put {w' : World} {b n m : Nat} {g : List UInt8 → Option Int} {D : DataW Unit} (hD : Tidy D) (h1 : ∀ s, Maps.has D (keyL s) = (g s).isSome) (h2 : ∀ s, D.atKey (keyL s) (.lit (.int .i64 0)) = .lit (.int .i64 ((g s).getD 0))) (h3 : Maps.size D = m)
    {s : List UInt8} {x : Int} (hown : OwnM w' b (n + 1) (D.put (keyL s) (.lit (.int .i64 x)))) : MapAt w' b (n + 1) (updM g s x) (if (g s).isSome then m else m + 1) := by
  refine ⟨_, hown, fun t => ?_, fun t => ?_, ?_⟩
  · by_cases e : t = s
    · subst e; rw [Maps.has_put_same hD.isMap (keyL_is _)]; simp [updM]
    · rw [Maps.has_put_other (keyL_ne e), h1]; simp [updM, e]
  · by_cases e : t = s
    · subst e; rw [Maps.atKey_put_same hD.isMap (keyL_is _)]; simp [updM]
    · rw [Maps.atKey_put_other (keyL_ne e), h2]; simp [updM, e]
  · rw [Maps.size_put hD, h1, h3]
/-- what a map of the tasks' names holds, and how many different names there are -/
def nameMap (ns : List (List UInt8)) (s : List UInt8) : Option Int := if s ∈ ns then some (ns.idxOf s : Int) else none

theorem wpList_putM {w : World} {ops : Array Oper} {rest : List Oper} {o : Oper} {a : Act} {Q : Exit → Act → World → Prop} (hgd : o.guard = none) (mo xo vo : Operand) (hop : o.op = Op.mapUpdate 100 mo xo vo)
    {b n m : Nat} {g : List UInt8 → Option Int} (hm : a.eval mo = .map (some b)) (hown : MapAt w b n g m) (hn : n < maxLen) (s : List UInt8) (x : Int) (hx : a.eval xo = .string (sb s)) (hv : a.eval vo = .int .i64 x) (hs : s.length ≤ maxLen) (hw : (Lit.int .i64 x).wf = true)
    (hK : ∀ w', MapAt w' b (n + 1) (updM g s x) (if (g s).isSome then m else m + 1) → w.grownBy w' (some b) → wpList Tryd.prog ops Q rest (a.put o.dst undef) w') :
    wpList Tryd.prog ops Q (o :: rest) a w := by
  obtain ⟨D, ho, h1, h2, h3⟩ := hown.ex
  exact wpList_mapUpdate_own w hgd mo xo vo 100 hop 9 3 keyed_str Tryd.underlying100 _ b n D hm ho hn _ _ (keyL s) hx hv (keyL_of hs) (.lit (.int .i64 x)) [] (plainElem_int Tryd.underlying3 hw)
    fun w' h hg => hK w' (MapAt.put (ho.tidy keyed_str) h1 h2 h3 h) hg
theorem wpList_getM {w : World} {ops : Array Oper} {rest : List Oper} {o : Oper} {a : Act} {Q : Exit → Act → World → Prop} (hgd : o.guard = none) (mo xo : Operand) (hop : o.op = Op.lookup 100 mo xo true)
    {b n m : Nat} {g : List UInt8 → Option Int} (hm : a.eval mo = .map (some b)) (hown : MapAt w b n g m) (s : List UInt8) (hx : a.eval xo = .string (sb s)) (hs : s.length ≤ maxLen)
    (hK : wpList Tryd.prog ops Q rest (a.put o.dst (.tuple #[.int .i64 ((g s).getD 0), .bool (g s).isSome])) w) :
    wpList Tryd.prog ops Q (o :: rest) a w := by
  obtain ⟨D, ho, h1, h2, h3⟩ := hown.ex
  refine wpList_lookup_own_ok_int w hgd mo xo 100 hop 9 3 .i64 keyed_str Tryd.underlying100 Tryd.underlying3 (zero_int w) b n D hm ho _ (keyL s) hx (keyL_of hs) fun c hat hwc => ?_
  rw [h2 s] at hat
  injection hat with hat
  injection hat with _ hat
  rw [← hat, h1 s]
  exact hK
theorem wpList_lenM {w : World} {ops : Array Oper} {rest : List Oper} {o : Oper} {a : Act} {Q : Exit → Act → World → Prop} (hgd : o.guard = none) (mo : Operand) (hop : o.op = Op.call { callee := Callee.builtin Builtin.len, args := #[mo], argTypes := #[100] })
    {b n m : Nat} {g : List UInt8 → Option Int} (hm : a.eval mo = .map (some b)) (hown : MapAt w b n g m) (hK : wpList Tryd.prog ops Q rest (a.put o.dst (.int .i64 (m : Int))) w) :
    wpList Tryd.prog ops Q (o :: rest) a w := by
  obtain ⟨D, ho, h1, h2, h3⟩ := hown.ex
  subst h3
  exact wpList_len_own w hgd mo 100 hop 9 3 Tryd.underlying100 _ b n D hm ho hK

end Go.Proofs.YtgejonmjmieglaaDoor

/- Check, its parts that ask nothing of texts: a statement's limits, numbers, links. -/
namespace Go.Proofs.YtgejonmjmieglaaDoor
open Go.RowKit
set_option linter.unusedVariables false
set_option maxRecDepth 100000

def stV (s : ByteArray) (x a b : Int) : Value := .agg #[.string s, .int .i64 x, .int .i64 a, .int .i64 b]
set_option maxHeartbeats 800000 in
theorem allows_any (s : ByteArray) (x a b n : Int) (w : World) :
    Calls Tryd.prog 76 #[.agg #[.string s, .int .i64 x, .int .i64 a, .int .i64 b], .int .i64 n] w fun e w' => e = .returned (.bool (inR a b n)) ∧ Below w.heap.size w w' := by
  unfold inR
  by_cases h1 : a ≤ n
  · have e1 : decide (a ≤ n) = true := by simpa using h1
    go_enter Tryd.func76, Tryd.ntmps76
    go_wp2
    go_ret
    exact ⟨by first | rfl | (rw [e1]; rfl), al _ _⟩
  · have e1 : decide (a ≤ n) = false := by simpa using h1
    go_enter Tryd.func76, Tryd.ntmps76
    go_wp2
    go_ret
    exact ⟨by first | rfl | (rw [e1]; rfl), al _ _⟩

theorem all_snoc {α : Type} {p : α → Bool} {l : List α} {k : Nat} {x : α} (h : l[k]? = some x) (hp : p x = true) (hi : (l.take k).all p = true) : (l.take (k + 1)).all p = true := by
  rw [List.take_add_one, h, List.all_append, hi]; simp [hp]
theorem all_no {α : Type} {p : α → Bool} {l : List α} {k : Nat} {x : α} (h : l[k]? = some x) (hp : p x = false) : l.all p = false := by
  rw [List.all_eq_false]; exact ⟨x, List.mem_of_getElem? h, by simp [hp]⟩
theorem all_done {α : Type} {p : α → Bool} {l : List α} {k : Nat} (hk : ¬ k < l.length) (hi : (l.take k).all p = true) : l.all p = true := by
  rwa [List.take_of_length_le (Nat.not_lt.1 hk)] at hi
def flowO (f : FlowD) (A : Option Addr) (c : Nat) : Obj := .cells #[.string (sb f.name), .int .i64 f.deadline, .int .i64 f.priority, .slice A f.tasks.length c] 24 (0, 0)
theorem keep_obj {W w1 : World} (hb : Below W.heap.size W w1) {k : Nat} {o : Obj} (h : W.heap[k]? = some o) : w1.heap[k]? = some o :=
  (hb.block k (Array.getElem?_eq_some_iff.1 h).1).trans h
theorem keep_cell {W w1 : World} (hb : Below W.heap.size W w1) {p : Addr} {v : Value} (h : W.cell? p = some v) : w1.cell? p = some v :=
  (hb.cell (World.block_lt_of_cell? W _ h)).trans h

set_option maxHeartbeats 3200000 in
theorem numbers_any (f : FlowD) (A : Option Addr) (c : Nat) (w : World) (h : Tasks w A c f.tasks) (hS : TabS w) :
    Calls Tryd.prog 56 #[.agg #[.string (sb f.name), .int .i64 f.deadline, .int .i64 f.priority, .slice A f.tasks.length c]] w fun e w' => e = .returned (.bool (numbersOK f)) ∧ Below w.heap.size w w' := by
  have hlm : f.tasks.length ≤ 9223372036854775807 := Nat.le_trans h.cap (by have := h.top; simpa [maxLen] using this)
  have H := Lib.hid h; clear h
  have HS := Lib.hid hS; clear hS
  go_enter Tryd.func56, Tryd.ntmps56
  go_wp2
  go_loopw [8] (fun i wr => ∃ k : Nat, k ≤ f.tasks.length ∧ i = .int .i64 k ∧ Below w.heap.size w wr ∧ Hid (wr.heap[w.heap.size]? = some (flowO f A c)) ∧ Hid ((f.tasks.take k).all numsOK = true)) (fun i _ => f.tasks.length - (intOf i).toNat)
  case atStart => exact ⟨0, Nat.zero_le _, rfl, al _ _, Lib.hid (heap_alloc_new w _), Lib.hid rfl⟩
  case round =>
    obtain ⟨k, hk, rfl, hb, ho, hi⟩ := hrel
    by_cases hlt : k < f.tasks.length
    · obtain ⟨t, ht⟩ : ∃ t, f.tasks[k]? = some t := ⟨_, List.getElem?_eq_getElem hlt⟩
      obtain ⟨b, off, A', c', rfl, h0, h1, h2, h3, h4, h5, _⟩ := (H.out.below hb).cells k _ ht
      obtain ⟨s40, s41, s42, s43⟩ := (HS.out.below hb).s4
      obtain ⟨s50, s51, s52, s53⟩ := (HS.out.below hb).s5
      obtain ⟨s60, s61, s62, s63⟩ := (HS.out.below hb).s6
      have hg := (HS.out.below hb).lt
      have hno : ∀ t', f.tasks[k]? = some t' → numsOK t' = false → numbersOK f = false := fun t' h1 h2 => by unfold numbersOK; rw [all_no h1 h2]; rfl
      cases e4 : inR 1 10000 t.nodes
      · have HN := Lib.hid (hno t ht (by unfold numsOK; rw [e4]; rfl))
        clear hno ht
        go_wp2_with fail
        refine (allows_any _ _ _ _ _ _).mono ?_
        rintro e w1 ⟨rfl, hb1⟩
        obtain ⟨hc1, hf1⟩ := bl_cells hb1
        have hs1 : wr.heap.size < w1.heap.size := by have := hb1.size; simp at this; omega
        have hz1 : 0 < w1.heap.size := by omega
        go_wp2
        go_ret
        exact ⟨by rw [HN.out]; rfl, blw (blw hb (al wr _)) hb1⟩
      cases e5 : inR 1 maxT t.wall
      · have HN := Lib.hid (hno t ht (by unfold numsOK; rw [e5, Bool.false_and, Bool.and_false]))
        unfold maxT at e5
        clear hno ht
        go_wp2_with fail
        refine (allows_any _ _ _ _ _ _).mono ?_
        rintro e w1 ⟨rfl, hb1⟩
        obtain ⟨hc1, hf1⟩ := bl_cells hb1
        have hs1 : wr.heap.size < w1.heap.size := by have := hb1.size; simp at this; omega
        have hz1 : 0 < w1.heap.size := by omega
        go_wp2_with fail
        refine (allows_any _ _ _ _ _ _).mono ?_
        rintro e w2 ⟨rfl, hb2⟩
        obtain ⟨hc2, hf2⟩ := bl_cells hb2
        have hs2 := hb2.size
        go_wp2
        go_ret
        exact ⟨by rw [HN.out]; rfl, blw (blw (blw hb (al wr _)) hb1) hb2⟩
      cases e6 : inR 0 20 t.retry
      · have HN := Lib.hid (hno t ht (by unfold numsOK; rw [e6, Bool.and_false, Bool.and_false]))
        unfold maxT at e5
        clear hno ht
        go_wp2_with fail
        refine (allows_any _ _ _ _ _ _).mono ?_
        rintro e w1 ⟨rfl, hb1⟩
        obtain ⟨hc1, hf1⟩ := bl_cells hb1
        have hs1 : wr.heap.size < w1.heap.size := by have := hb1.size; simp at this; omega
        have hz1 : 0 < w1.heap.size := by omega
        go_wp2_with fail
        refine (allows_any _ _ _ _ _ _).mono ?_
        rintro e w2 ⟨rfl, hb2⟩
        obtain ⟨hc2, hf2⟩ := bl_cells hb2
        have hs2 := hb2.size
        go_wp2_with fail
        refine (allows_any _ _ _ _ _ _).mono ?_
        rintro e w3 ⟨rfl, hb3⟩
        obtain ⟨hc3, hf3⟩ := bl_cells hb3
        have hs3 := hb3.size
        go_wp2
        go_ret
        exact ⟨by rw [HN.out]; rfl, blw (blw (blw (blw hb (al wr _)) hb1) hb2) hb3⟩
      · have HN := Lib.hid (all_snoc ht (by unfold numsOK; rw [e4, e5, e6]; rfl) hi.out)
        unfold maxT at e5
        clear hno ht
        go_wp2_with fail
        refine (allows_any _ _ _ _ _ _).mono ?_
        rintro e w1 ⟨rfl, hb1⟩
        obtain ⟨hc1, hf1⟩ := bl_cells hb1
        have hs1 : wr.heap.size < w1.heap.size := by have := hb1.size; simp at this; omega
        have hz1 : 0 < w1.heap.size := by omega
        go_wp2_with fail
        refine (allows_any _ _ _ _ _ _).mono ?_
        rintro e w2 ⟨rfl, hb2⟩
        obtain ⟨hc2, hf2⟩ := bl_cells hb2
        have hs2 := hb2.size
        go_wp2_with fail
        refine (allows_any _ _ _ _ _ _).mono ?_
        rintro e w3 ⟨rfl, hb3⟩
        obtain ⟨hc3, hf3⟩ := bl_cells hb3
        have hs3 := hb3.size
        go_wp2
        have hbb := blw (blw (blw (blw hb (al wr _)) hb1) hb2) hb3
        go_roundw
        case rel => exact ⟨k + 1, by omega, by go_num, hbb, Lib.hid (keep_obj hb3 (keep_obj hb2 (keep_obj hb1 (keep_obj (al wr _) ho.out)))), HN⟩
        case measure => simp [intOf]; omega
    · obtain ⟨s10, s11, s12, s13⟩ := (HS.out.below hb).s1
      obtain ⟨s20, s21, s22, s23⟩ := (HS.out.below hb).s2
      have hg := (HS.out.below hb).lt
      have ha := all_done hlt hi.out
      have hof := ho.out
      have c1 := Dag.blk_cell hof 1
      have c2 := Dag.blk_cell hof 2
      have hlb := Dag.blk_lt hof
      simp at c1 c2
      clear hof
      cases e1 : inR 0 maxT f.deadline
      · have HN := Lib.hid (show numbersOK f = false from by unfold numbersOK; rw [e1, Bool.false_and, Bool.and_false])
        unfold maxT at e1
        clear ha
        go_wp2_with fail
        refine (allows_any _ _ _ _ _ _).mono ?_
        rintro e w1 ⟨rfl, hb1⟩
        go_wp2
        go_ret
        exact ⟨by rw [HN.out]; rfl, blw hb hb1⟩
      · cases e2 : inR 0 1000 f.priority
        all_goals
          have HN := Lib.hid (show numbersOK f = _ from by unfold numbersOK; rw [ha, e1, e2])
          unfold maxT at e1
          clear ha
          go_wp2_with fail
          refine (allows_any _ _ _ _ _ _).mono ?_
          rintro e w1 ⟨rfl, hb1⟩
          obtain ⟨hc1, hf1⟩ := bl_cells hb1
          go_wp2_with fail
          refine (allows_any _ _ _ _ _ _).mono ?_
          rintro e w2 ⟨rfl, hb2⟩
          go_wp2
          go_ret
          exact ⟨by rw [HN.out]; rfl, blw (blw hb hb1) hb2⟩

end Go.Proofs.YtgejonmjmieglaaDoor

/- Two tasks of one name; links; what each task waits for. -/
namespace Go.Proofs.YtgejonmjmieglaaDoor
open Go.RowKit
set_option linter.unusedVariables false
set_option maxRecDepth 100000

/-- how many different names there are -/
def diffN : List (List UInt8) → Nat
  | [] => 0
  | x :: l => if x ∈ l then diffN l else diffN l + 1
theorem diffN_le : ∀ l, diffN l ≤ l.length
  | [] => Nat.le_refl _
  | x :: l => by have := diffN_le l; unfold diffN; split <;> simp <;> omega
theorem diffN_nodup : ∀ l, diffN l = l.length ↔ l.Nodup
  | [] => by simp [diffN]
  | x :: l => by
    have h1 := diffN_le l
    have h2 := diffN_nodup l
    unfold diffN
    rw [List.nodup_cons, List.length_cons]
    split
    · rename_i h; constructor
      · intro e; omega
      · intro e; exact absurd h e.1
    · rename_i h
      constructor
      · intro e; exact ⟨h, h2.1 (by omega)⟩
      · intro e; rw [h2.2 e.2]
theorem diffN_snoc : ∀ (l : List (List UInt8)) (x : List UInt8), diffN (l ++ [x]) = if x ∈ l then diffN l else diffN l + 1
  | [], x => by simp [diffN]
  | y :: l, x => by
    rw [List.cons_append, diffN, diffN_snoc l x, diffN]
    by_cases hyx : y = x
    · subst hyx
      by_cases hy : y ∈ l <;> simp [hy]
    · have hxy : ¬ x = y := fun e => hyx e.symm
      by_cases hy : y ∈ l <;> by_cases hx : x ∈ l <;> simp [hy, hx, hyx, hxy]
theorem twins_iff (ts : List TaskD) : twins ts = decide (diffN (names ts) < ts.length) := by
  have h1 := diffN_le (names ts)
  have h2 := diffN_nodup (names ts)
  have h3 : (names ts).length = ts.length := by simp [names]
  unfold twins
  rw [h3] at h1 h2
  by_cases h : (names ts).Nodup
  · have := h2.2 h; simp [h, this]
  · have : ¬ diffN (names ts) = ts.length := fun e => h (h2.1 e)
    have h4 : diffN (names ts) < ts.length := by omega
    simp [h, h4]
theorem names_take {ts : List TaskD} {k : Nat} {t : TaskD} (h : ts[k]? = some t) : names (ts.take (k + 1)) = names (ts.take k) ++ [t.name] := by
  unfold names; rw [List.take_add_one, h]; simp

set_option maxHeartbeats 3200000 in
theorem twins_any (ts : List TaskD) (A : Option Addr) (c : Nat) (w : World) (h : Tasks w A c ts) :
    Calls Tryd.prog 57 #[.slice A ts.length c] w fun e w' => e = .returned (.bool (twins ts)) ∧ Below w.heap.size w w' := by
  have hlm := h.lenI
  have HC := Lib.hid h.cap; have HT := Lib.hid h.top
  have H := Lib.hid h; clear h
  rw [twins_iff]
  have hmm := fun (W : World) (n : Int) => run_makeMapH W n
  go_enter Tryd.func57, Tryd.ntmps57
  go_wp2
  go_loopw [11] (fun i wr => ∃ (k : Nat) (g : List UInt8 → Option Int), k ≤ ts.length ∧ i = .int .i64 k ∧ Below w.heap.size w wr ∧ Hid (MapAt wr w.heap.size k g (diffN (names (ts.take k)))) ∧ Hid (∀ s, (g s).isSome = decide (s ∈ names (ts.take k)))) (fun i _ => ts.length - (intOf i).toNat)
  case atStart => exact ⟨0, _, Nat.zero_le _, rfl, al _ _, Lib.hid (MapAt.made w), Lib.hid (fun s => by simp [names])⟩
  case round =>
    obtain ⟨k, g, hk, rfl, hb, hm, hi⟩ := hrel
    by_cases hlt : k < ts.length
    · obtain ⟨t, ht⟩ : ∃ t, ts[k]? = some t := ⟨_, List.getElem?_eq_getElem hlt⟩
      obtain ⟨b, off, A', c', rfl, h0, h1, h2, h3, h4, h5, _⟩ := (H.out.below hb).cells k _ ht
      have hnm := H.out.nm t (List.mem_of_getElem? ht)
      have hkm : k < maxLen := Nat.lt_of_lt_of_le hlt (Nat.le_trans HC.out HT.out)
      have hwf : (Lit.int .i64 (k : Int)).wf = true := WalkArith.wf_i64 (by omega)
      have HM1 : Hid (∀ o, MapAt (wr.alloc o) w.heap.size k g (diffN (names (ts.take k)))) := Lib.hid fun o => hm.out.below (al wr o)
      have hlb := hm.out.lt
      have HN := Lib.hid (show (if (g t.name).isSome then diffN (names (ts.take k)) else diffN (names (ts.take k)) + 1) = diffN (names (ts.take (k + 1))) from by
        rw [names_take ht, diffN_snoc, hi.out]; simp)
      have HG := Lib.hid (show ∀ s, (updM g t.name (k : Int) s).isSome = decide (s ∈ names (ts.take (k + 1))) from fun s => by
        rw [names_take ht]
        unfold updM
        by_cases e : s = t.name
        · simp [e]
        · rw [if_neg e, hi.out]; simp [e])
      have HW := Lib.hid hwf; have HKM := Lib.hid hkm; have HNM := Lib.hid hnm
      clear ht hwf hkm hnm
      go_wp2_with (at_mapUpdate; refine wpList_putM rfl _ _ _ rfl (b := w.heap.size) rfl (HM1.out _) HKM.out t.name (k : Int) rfl rfl HNM.out HW.out ?_; intro w1 hm1 hg1)
      rw [HN.out] at hm1
      go_roundw
      case rel => exact ⟨k + 1, _, by omega, by go_num, (blw hb (al wr _)).grown hg1 (by have := hb.size; simp; omega) (fun j hj => by cases hj; exact Nat.le_refl _), Lib.hid hm1, HG⟩
      case measure => simp [intOf]; omega
    · have hm1 := hm.out
      rw [List.take_of_length_le (Nat.not_lt.1 hlt)] at hm1
      obtain ⟨q, hq⟩ : ∃ q, diffN (names ts) = q := ⟨_, rfl⟩
      rw [hq] at hm1
      have HM := Lib.hid hm1; have HQ := Lib.hid hq; clear hm1 hq
      go_wp2_with (at_len; refine wpList_lenM rfl _ rfl (b := w.heap.size) rfl HM.out ?_)
      go_ret
      exact ⟨by rw [HQ.out]; first | rfl | simp, hb⟩

theorem rise_at {n : Nat} {L v : Int} {l : List Int} {j : Nat} (h : l[j]? = some v) : riseL n L (l.drop j) = (decide (L < v) && (decide (v < (n : Int)) && riseL n v (l.drop (j + 1)))) := by
  have hj := (List.getElem?_eq_some_iff.1 h).1
  rw [List.drop_eq_getElem_cons hj]
  have : l[j] = v := (List.getElem?_eq_some_iff.1 h).2
  rw [this, riseL]
theorem drop_nil {α : Type} {l : List α} {j : Nat} (h : ¬ j < l.length) : l.drop j = [] := List.drop_eq_nil_of_le (Nat.not_lt.1 h)

set_option maxHeartbeats 3200000 in
theorem links_any (ts : List TaskD) (A : Option Addr) (c : Nat) (w : World) (h : Tasks w A c ts) :
    Calls Tryd.prog 58 #[.slice A ts.length c] w fun e w' => e = .returned (.bool (linksOK ts)) ∧ Below w.heap.size w w' := by
  have hlm := h.lenI
  have H := Lib.hid h; clear h
  go_enter Tryd.func58, Tryd.ntmps58
  go_wp2
  go_loopw [10] (fun i wr => ∃ k : Nat, k ≤ ts.length ∧ i = .int .i64 k ∧ Below w.heap.size w wr ∧ Hid ((ts.take k).all (fun t => linkOK ts.length t.after) = true)) (fun i _ => ts.length - (intOf i).toNat)
  case atStart => exact ⟨0, Nat.zero_le _, rfl, Below.refl _ _, Lib.hid rfl⟩
  case round =>
    obtain ⟨k, hk, rfl, hb, hi⟩ := hrel
    by_cases hlt : k < ts.length
    · obtain ⟨t, ht⟩ : ∃ t, ts[k]? = some t := ⟨_, List.getElem?_eq_getElem hlt⟩
      obtain ⟨b, off, A', c', rfl, h0, h1, h2, h3, h4, h5, hI⟩ := (H.out.below hb).cells k _ ht
      have hll : t.after.length ≤ 9223372036854775807 := Nat.le_trans hI.len (by have := Dag.Sl.top hI; simpa [maxLen] using this)
      have HI := Lib.hid (show Dag.Ints (wr.alloc (.cells #[.string (sb t.name), .int .i64 t.nodes, .int .i64 t.wall, .int .i64 t.retry, .bool t.done, .slice A' t.after.length c'] 64)) A' c' t.after from hI.below (al wr _))
      clear hI
      have HY := Lib.hid (show linkOK ts.length t.after = true → (ts.take (k + 1)).all (fun t => linkOK ts.length t.after) = true from fun e => all_snoc ht e hi.out)
      have HN := Lib.hid (show linkOK ts.length t.after = false → linksOK ts = false from fun e => all_no ht e)
      clear ht
      go_wp2
      go_loop [5, 17] (fun l i => ∃ (j : Nat) (L : Int), j ≤ t.after.length ∧ i = .int .i64 j ∧ l = .int .i64 L ∧ Hid (linkOK ts.length t.after = riseL ts.length L (t.after.drop j))) (fun _ i => t.after.length - (intOf i).toNat)
      case atStart => exact ⟨0, -1, Nat.zero_le _, rfl, rfl, Lib.hid rfl⟩
      case round =>
        obtain ⟨j, L, hj, rfl, rfl, hL⟩ := hrel
        by_cases hjl : j < t.after.length
        · obtain ⟨b2, off2, v, rfl, hv, hcv⟩ := HI.out.at_ hjl
          by_cases h1 : v ≤ L
          · have hF := HN.out (by rw [hL.out, rise_at hv]; have : decide (L < v) = false := by simp; omega
                                  rw [this]; rfl)
            have HF := Lib.hid hF
            clear hF hv
            go_wp2
            go_ret
            exact ⟨by rw [HF.out]; rfl, blw hb (al wr _)⟩
          · by_cases h2 : v < (ts.length : Int)
            · have HS := Lib.hid (show linkOK ts.length t.after = riseL ts.length v (t.after.drop (j + 1)) from by
                rw [hL.out, rise_at hv]; have e1 : decide (L < v) = true := by simp; omega
                have e2 : decide (v < (ts.length : Int)) = true := by simp; omega
                rw [e1, e2]; rfl)
              clear hv
              go_wp2
              go_round
              case rel => exact ⟨j + 1, v, by omega, by go_num, rfl, HS⟩
              case measure => simp [intOf]; omega
            · have hF := HN.out (by rw [hL.out, rise_at hv]; have : decide (v < (ts.length : Int)) = false := by simp; omega
                                    rw [this]; simp)
              have HF := Lib.hid hF
              clear hF hv
              go_wp2
              go_ret
              exact ⟨by rw [HF.out]; rfl, blw hb (al wr _)⟩
        · have HS := Lib.hid (HY.out (by rw [hL.out, drop_nil hjl]; rfl))
          go_wp2
          go_roundw
          case rel => exact ⟨k + 1, by omega, by go_num, blw hb (al wr _), HS⟩
          case measure => simp [intOf]; omega
    · have HN := Lib.hid (show linksOK ts = true from all_done hlt hi.out)
      go_wp2
      go_ret
      exact ⟨by rw [HN.out]; rfl, hb⟩

end Go.Proofs.YtgejonmjmieglaaDoor
namespace Go.Proofs.YtgejonmjmieglaaDoor
open Go.RowKit
open Dag (Ints IRows Own1 OwnI Sl ints info_int info_is)
set_option linter.unusedVariables false
set_option maxRecDepth 100000

def RetL (w : World) (xs : List Int) (e : Ending) (w' : World) : Prop := ∃ A c, e = .returned (.slice A xs.length c) ∧ Ints w' A c xs ∧ (∀ a, A = some a → w.heap.size ≤ a.block) ∧ Below w.heap.size w w'
set_option maxHeartbeats 800000 in
theorem clone_any (xs : List Int) (n : Nat) (he : xs.length = n) (w : World) (A : Option Addr) (c : Nat) (h : Ints w A c xs) (hn : n ≤ 100000000) :
    Calls Tryd.prog 80 #[.slice A n c] w (RetL w xs) := by
  have HE := Lib.hid he
  have q30 := fun (W : World) (a : Option Addr) (n c n' c' : Nat) => Lib.run_eql_slice_nil W 25 3 a n c n' c' Tryd.underlying25
  cases A with
  | none =>
    have hc := Sl.nil h rfl
    have hx : xs = [] := List.eq_nil_of_length_eq_zero (by have := h.len; omega)
    subst hx hc
    obtain rfl : n = 0 := by simpa using he.symm
    clear he
    go_enter Tryd.func80, Tryd.ntmps80
    go_wp2
    go_ret
    exact ⟨none, 0, rfl, Ints.empty w, (fun a e => by cases e), Below.refl _ _⟩
  | some a =>
    have H := Lib.hid h; clear h he
    have own0 : Own1 (w.alloc (.cells #[] 3)) w.heap.size 3 (.slice (some ⟨w.heap.size, 0, none⟩) 0 0) [] := by
      have := Own1.lit w w.heap.size 3 (Nat.le_refl _) [] (by simp [maxLen])
      simpa using this
    have OWN := Lib.hid own0; clear own0
    go_enter Tryd.func80, Tryd.ntmps80
    go_wp2_with (at_builtin; refine Dag.wpList_appg rfl _ _ 25 3 (.int .i64 0) 8 Tryd.underlying25 info_int rfl (by decide) rfl w.heap.size (.slice (some ⟨w.heap.size, 0, none⟩) 0 0) [] rfl OWN.out (some a) c n (ints xs) (by rw [Dag.ints_len, HE.out]) rfl (Sl.below H.out ((Below.refl _ _).alloc (Nat.le_refl _) _)) (Dag.ints_one xs) (by rw [Dag.ints_len, HE.out]; simp; omega) (by simp) ?_; intro l A9 c9 w9 el ho9 hg9 hb9 hbl9; have HO9 := Lib.hid ho9; have HBL := Lib.hid hbl9; have EL := Lib.hid el; clear ho9 hg9 hb9 hbl9 el)
    go_ret
    have el : l = ints xs := by rw [EL.out, List.nil_append]
    subst el
    have h2 := (OwnI.ints' (xs := xs) HO9.out)
    rw [Dag.ints_len] at h2
    refine ⟨A9, c9, by rw [Dag.ints_len]; rfl, h2.2, fun a' e => ?_, ((Below.refl _ _).alloc (Nat.le_refl _) _).trans HBL.out⟩
    subst e
    obtain ⟨A8, c8, e8, _, h8⟩ := Own1.slice HO9.out
    injection e8 with e8
    rcases h8 with h8 | ⟨g, h8⟩
    · rw [h8] at e8; cases e8
    · rw [h8] at e8; injection e8 with e8; subst e8
      exact (Own1.lt HO9.out (b := g) rfl).1

/-- rows of numbers, the first k of them there already, none of them in the outer block -/
structure Half (w : World) (base : Nat) (v : Value) (n k : Nat) (ls : List (List Int)) : Prop where
  ex : ∃ g vs, v = .slice (some ⟨g, 0, none⟩) n n ∧ vs.length = n ∧ base ≤ g ∧ g < w.heap.size ∧ Own1 w base 25 v vs ∧
    ∀ j xs, j < k → ls[j]? = some xs → ∃ A c, vs[j]? = some (.slice A xs.length c) ∧ Ints w A c xs ∧ (∀ a, A = some a → g < a.block)
theorem Half.rows {w : World} {base n : Nat} {v : Value} {ls : List (List Int)} (h : Half w base v n n ls) (hn : ls.length = n) (hb : n ≤ maxLen) : ∃ A c, v = .slice A n c ∧ IRows w A c ls := by
  obtain ⟨g, vs, rfl, hl, hbg, hlt, ho, hr⟩ := h.ex
  refine ⟨_, _, rfl, ⟨fun k xs hk => ?_, by omega, hb, fun e => by cases e⟩⟩
  have hkn : k < n := by have := (List.getElem?_eq_some_iff.1 hk).1; omega
  obtain ⟨A, c, hv, hi, _⟩ := hr k xs hkn hk
  obtain ⟨g2, e2, _, _, hc, _⟩ := Own1.at_ ho hv
  injection e2 with e2; injection e2 with e2; subst e2
  exact ⟨_, 0, A, c, rfl, by rw [Nat.zero_add]; exact hc, hi⟩
theorem Half.below {w w' : World} {base n k : Nat} {v : Value} {ls : List (List Int)} (h : Half w base v n k ls) (hb : Below w.heap.size w w') : Half w' base v n k ls := by
  obtain ⟨g, vs, rfl, hl, hbg, hlt, ho, hr⟩ := h.ex
  refine ⟨g, vs, rfl, hl, hbg, Nat.lt_of_lt_of_le hlt hb.size, ho.below hb, fun j xs hj hx => ?_⟩
  obtain ⟨A, c, h1, h2, h3⟩ := hr j xs hj hx
  exact ⟨A, c, h1, h2.below hb, h3⟩
theorem cell_keep {w w' : World} {p : Addr} (h : w'.heap[p.block]? = w.heap[p.block]?) : w'.cell? p = w.cell? p := by unfold World.cell?; rw [h]
theorem ints_other {w : World} {A : Option Addr} {c g i : Nat} {xs : List Int} {u : Value} (h : Ints w A c xs) (hg : ∀ a, A = some a → a.block ≠ g) : Ints (w.setCell ⟨g, i, none⟩ u) A c xs := by
  refine ⟨fun k v hk => ?_, h.cap, h.top, h.nil⟩
  obtain ⟨b, off, e, hc⟩ := h.cells k v hk
  exact ⟨b, off, e, (cell_keep (p := ⟨b, off + k, none⟩) (Dag.blk_other (hg _ e : b ≠ g))).trans hc⟩
/-- one row more -/
theorem Half.step {w w1 : World} {base n k : Nat} {v : Value} {ls : List (List Int)} {xs : List Int} {A : Option Addr} {c : Nat} (h : Half w base v n k ls) (hb : Below w.heap.size w w1) (hk : k < n) (hx : ls[k]? = some xs) (hi : Ints w1 A c xs) (hA : ∀ a, A = some a → w.heap.size ≤ a.block) :
    ∃ g, v = .slice (some ⟨g, 0, none⟩) n n ∧ base ≤ g ∧ g < w.heap.size ∧ (∃ u, w1.cell? ⟨g, k, none⟩ = some u) ∧ w1.frozen? ⟨g, k, none⟩ = false ∧ Half (w1.setCell ⟨g, k, none⟩ (.slice A xs.length c)) base v n (k + 1) ls := by
  obtain ⟨g, vs, rfl, hl, hbg, hlt, ho, hr⟩ := h.ex
  have ho1 := ho.below hb
  have hkv : k < vs.length := by omega
  obtain ⟨g2, e2, _, hlt1, hc, hf, _, hs⟩ := Own1.at_ ho1 (List.getElem?_eq_getElem hkv)
  injection e2 with e2; injection e2 with e2; subst e2
  refine ⟨_, rfl, hbg, hlt, ⟨_, hc⟩, hf, ⟨_, _, rfl, by rw [List.length_set]; exact hl, hbg, by simpa [World.setCell] using hlt1, hs _, fun j ys hj hy => ?_⟩⟩
  by_cases e : j = k
  · subst e
    rw [hx] at hy; injection hy with hy; subst hy
    exact ⟨A, c, by rw [List.getElem?_set, if_pos rfl, if_pos hkv], ints_other hi (fun a ha => by have := hA a ha; omega), fun a ha => by have := hA a ha; omega⟩
  · obtain ⟨A', c', h1, h2, h3⟩ := hr j ys (by omega) hy
    exact ⟨A', c', by rw [List.getElem?_set, if_neg (fun h => e h.symm)]; exact h1, ints_other (h2.below hb) (fun a ha => by have := h3 a ha; omega), h3⟩
theorem after_get {ts : List TaskD} {k : Nat} {t : TaskD} (h : ts[k]? = some t) : (afterL ts)[k]? = some t.after := by simp [afterL, h]
theorem after_len (ts : List TaskD) : (afterL ts).length = ts.length := by simp [afterL]

set_option maxHeartbeats 1600000 in
theorem after_any (f : FlowD) (A : Option Addr) (c : Nat) (w : World) (h : Tasks w A c f.tasks) (hn : f.tasks.length ≤ 1000000) (hl : ∀ t ∈ f.tasks, t.after.length ≤ 100000000) :
    Calls Tryd.prog 60 #[.agg #[.string (sb f.name), .int .i64 f.deadline, .int .i64 f.priority, .slice A f.tasks.length c]] w (fun e w' => ∃ A' c', e = .returned (.slice A' f.tasks.length c') ∧ IRows w' A' c' (afterL f.tasks) ∧ Below w.heap.size w w') := by
  have H := Lib.hid h; clear h
  have HL := Lib.hid hl; clear hl
  have hmk := fun (W : World) (x y : Int) (hx : x = (f.tasks.length : Int)) (hy : y = (f.tasks.length : Int)) => Dag.run_mk W 60 25 (.slice none 0 0) 24 Tryd.underlying60 info_is rfl (by decide) f.tasks.length hn x y hx hy
  have hmk1 := fun (W : World) => hmk W _ _ rfl rfl
  clear hmk
  go_enter Tryd.func60, Tryd.ntmps60
  go_wp2
  go_loopw [13] (fun i wr => ∃ k : Nat, k ≤ f.tasks.length ∧ i = .int .i64 k ∧ Below w.heap.size w wr ∧ Hid (Half wr w.heap.size (.slice (some ⟨w.heap.size + 1, 0, none⟩) f.tasks.length f.tasks.length) f.tasks.length k (afterL f.tasks))) (fun i _ => f.tasks.length - (intOf i).toNat)
  case atStart =>
    refine ⟨0, Nat.zero_le _, rfl, blw (al _ _) (al _ _), Lib.hid ⟨_, _, rfl, List.length_replicate, by omega, by simp, Own1.make (w.alloc _) _ _ (by simp) _ hn (.slice none 0 0) (by simp), fun j xs hj => by omega⟩⟩
  case round =>
    obtain ⟨k, hk, rfl, hb, hh⟩ := hrel
    by_cases hlt : k < f.tasks.length
    · obtain ⟨t, ht⟩ : ∃ t, f.tasks[k]? = some t := ⟨_, List.getElem?_eq_getElem hlt⟩
      obtain ⟨b, off, A', c', rfl, h0, h1, h2, h3, h4, h5, hI⟩ := (H.out.below hb).cells k _ ht
      have hll := HL.out t (List.mem_of_getElem? ht)
      have HI := Lib.hid (show Ints (wr.alloc (.cells #[.string (sb t.name), .int .i64 t.nodes, .int .i64 t.wall, .int .i64 t.retry, .bool t.done, .slice A' t.after.length c'] 64)) A' c' t.after from hI.below (al wr _))
      have HG := Lib.hid (after_get ht)
      clear hI ht
      go_wp2_with fail
      refine (clone_any t.after _ rfl _ A' c' HI.out hll).mono ?_
      rintro e w1 ⟨A9, c9, rfl, hi9, hA9, hb9⟩
      obtain ⟨g, eg, hbg, hlg, ⟨u, hc⟩, hf, hS⟩ := (hh.out.below (al wr _)).step hb9 hlt HG.out hi9 hA9
      injection eg with eg
      injection eg with eg
      injection eg with eg
      have HS := Lib.hid hS
      have HB := Lib.hid (blw (blw hb (al wr _)) hb9)
      clear hS hi9 hA9 hb9 hlg
      subst eg
      go_wp2
      go_roundw
      case rel => exact ⟨k + 1, by omega, by go_num, HB.out.setCell (by simp) _, HS⟩
      case measure => simp [intOf]; omega
    · obtain rfl : k = f.tasks.length := by omega
      obtain ⟨A9, c9, e9, h9⟩ := hh.out.rows (after_len _) (by simp only [maxLen]; omega)
      injection e9 with e1 e2 e3
      subst e1 e3
      go_wp2
      go_ret
      exact ⟨_, _, rfl, h9, hb⟩

end Go.Proofs.YtgejonmjmieglaaDoor

/- Names: whether a task may be called so; whether all of a workflow may. -/
namespace Go.Proofs.YtgejonmjmieglaaDoor
open Go.RowKit
open Txt (nameD sameS)
set_option linter.unusedVariables false
set_option maxRecDepth 100000

theorem sb_sz {s : List UInt8} {n : Nat} (h : s.length ≤ n) : (sb s).size ≤ n := by rw [sb_size]; exact h
theorem nm_any (s : List UInt8) (w : World) (hs : s.length ≤ 9000000000000000000) (hT : Txt.Tabs w) :
    Calls Tryd.prog 75 #[.string (sb s)] w fun e w' => e = .returned (.bool (nameD s)) ∧ Below w.heap.size w w' := by
  have h := Txt.name_any (sb s) w (sb_sz hs) hT
  rw [show Txt.lst (sb s) = s from sb_list s] at h
  exact h
theorem sm_any (a b : List UInt8) (w : World) (ha : a.length ≤ 9000000000000000000) (hb : b.length ≤ 9000000000000000000) :
    Calls Tryd.prog 87 #[.string (sb a), .string (sb b)] w fun e w' => e = .returned (.bool (sameS a b)) ∧ Below w.heap.size w w' := by
  have h := Txt.same_any (sb a) (sb b) w (sb_sz ha) (sb_sz hb)
  rw [show Txt.lst (sb a) = a from sb_list a, show Txt.lst (sb b) = b from sb_list b] at h
  exact h

theorem isTask_any (s : List UInt8) (w : World) (hs : s.length ≤ 9000000000000000000) (hT : Txt.Tabs w) :
    Calls Tryd.prog 74 #[.string (sb s)] w fun e w' => e = .returned (.bool (taskName s)) ∧ Below w.heap.size w w' := by
  unfold taskName
  have HT := Lib.hid hT; clear hT
  go_enter Tryd.func74, Tryd.ntmps74
  go_wp2_with fail
  refine (nm_any s _ hs HT.out).mono ?_
  rintro e w1 ⟨rfl, hb1⟩
  cases hn : nameD s
  · go_wp2
    go_ret
    exact ⟨by rw [hn]; rfl, hb1⟩
  · go_wp2_with fail
    refine (sm_any s childW _ hs (by decide)).mono ?_
    rintro e w2 ⟨rfl, hb2⟩
    go_wp2
    go_ret
    exact ⟨by rw [hn]; rfl, blw hb1 hb2⟩

set_option maxHeartbeats 1600000 in
theorem hasNames_any (f : FlowD) (A : Option Addr) (c : Nat) (w : World) (h : Tasks w A c f.tasks) (hT : Txt.Tabs w) (hl : f.name.length ≤ 9000000000000000000) (hn : ∀ t ∈ f.tasks, t.name.length ≤ 9000000000000000000) :
    Calls Tryd.prog 55 #[.agg #[.string (sb f.name), .int .i64 f.deadline, .int .i64 f.priority, .slice A f.tasks.length c]] w fun e w' => e = .returned (.bool (namesOK f)) ∧ Below w.heap.size w w' := by
  have hlm := h.lenI
  have H := Lib.hid h; clear h
  have HT := Lib.hid hT; clear hT
  have HL := Lib.hid hn; clear hn
  go_enter Tryd.func55, Tryd.ntmps55
  go_wp2
  go_loopw [8] (fun i wr => ∃ k : Nat, k ≤ f.tasks.length ∧ i = .int .i64 k ∧ Below w.heap.size w wr ∧ Hid (wr.heap[w.heap.size]? = some (flowO f A c)) ∧ Hid ((f.tasks.take k).all (fun t => taskName t.name) = true)) (fun i _ => f.tasks.length - (intOf i).toNat)
  case atStart => exact ⟨0, Nat.zero_le _, rfl, al _ _, Lib.hid (heap_alloc_new w _), Lib.hid rfl⟩
  case round =>
    obtain ⟨k, hk, rfl, hb, ho, hi⟩ := hrel
    by_cases hlt : k < f.tasks.length
    · obtain ⟨t, ht⟩ : ∃ t, f.tasks[k]? = some t := ⟨_, List.getElem?_eq_getElem hlt⟩
      obtain ⟨b, off, A', c', rfl, h0, h1, h2, h3, h4, h5, _⟩ := (H.out.below hb).cells k _ ht
      have hnl := HL.out t (List.mem_of_getElem? ht)
      cases e4 : taskName t.name
      · have HN := Lib.hid (show namesOK f = false from by unfold namesOK; rw [all_no (p := fun t => taskName t.name) ht e4]; rfl)
        clear ht
        go_wp2_with fail
        refine (isTask_any _ _ hnl (HT.out.below (blw hb (al _ _)))).mono ?_
        rintro e w1 ⟨rfl, hb1⟩
        rw [e4]
        go_wp2
        go_ret
        exact ⟨by rw [HN.out]; rfl, blw (blw hb (al wr _)) hb1⟩
      · have HN := Lib.hid (all_snoc (p := fun t => taskName t.name) ht e4 hi.out)
        clear ht
        go_wp2_with fail
        refine (isTask_any _ _ hnl (HT.out.below (blw hb (al _ _)))).mono ?_
        rintro e w1 ⟨rfl, hb1⟩
        rw [e4]
        go_wp2
        have hbb := blw (blw hb (al wr _)) hb1
        go_roundw
        case rel => exact ⟨k + 1, by omega, by go_num, hbb, Lib.hid (keep_obj hb1 (keep_obj (al wr _) ho.out)), HN⟩
        case measure => simp [intOf]; omega
    · have HA := Lib.hid (show namesOK f = nameD f.name from by unfold namesOK; rw [all_done hlt hi.out]; rfl)
      have c0 := Dag.blk_cell ho.out 0
      have hlb := Dag.blk_lt ho.out
      simp at c0
      go_wp2_with fail
      refine (nm_any _ _ hl (HT.out.below hb)).mono ?_
      rintro e w1 ⟨rfl, hb1⟩
      go_wp2
      go_ret
      exact ⟨by rw [HA.out]; rfl, blw hb hb1⟩

end Go.Proofs.YtgejonmjmieglaaDoor

/- Check: the first error of a workflow. -/
namespace Go.Proofs.YtgejonmjmieglaaDoor
open Go.RowKit
open Txt (nameD sameS)
open Dag (Ints IRows newE)
set_option linter.unusedVariables false
set_option maxRecDepth 100000

/-- what New is asked for here: its error, of at most N vertices -/
def NewOK (N : Nat) (Tb : World → Prop) : Prop := ∀ (E : List (List Int)) (n : Nat), E.length = n → n ≤ N → (∀ l ∈ E, l.length ≤ N) → ∀ (w : World) (A : Option Addr) (c : Nat), IRows w A c E → Tb w →
  Calls Tryd.prog 59 #[.slice A n c] w fun e w' => ∃ p, e = .returned (.tuple #[p, .int .i64 (newE E)]) ∧ Below w.heap.size w w'
theorem newOK : NewOK 4096 Dag.Tab := by
  intro E n he hn hl w A c h hT
  refine (Dag.new_any E n he w A c h hn (fun l hm => Nat.le_trans (hl l hm) (by decide)) hT).mono ?_
  rintro e w' ⟨p, rfl, hb, _⟩
  exact ⟨p, rfl, hb⟩

theorem rise_len {n : Nat} : ∀ (l : List Int) (L : Int), -1 ≤ L → riseL n L l = true → (l.length : Int) + L + 1 ≤ n ∨ l = []
  | [], L, _, _ => Or.inr rfl
  | v :: l, L, hL, h => by
    rw [riseL] at h
    simp only [Bool.and_eq_true, decide_eq_true_eq] at h
    obtain ⟨h1, h2, h3⟩ := h
    rcases rise_len l v (by omega) h3 with h4 | h4
    · left; simp only [List.length_cons]; omega
    · left; subst h4; simp only [List.length_cons, List.length_nil]; omega
theorem linkOK_len {n : Nat} {l : List Int} (h : linkOK n l = true) : l.length ≤ n := by
  rcases rise_len l (-1) (by omega) h with h | h
  · omega
  · subst h; simp
theorem linksOK_len {ts : List TaskD} (h : linksOK ts = true) : ∀ l ∈ afterL ts, l.length ≤ ts.length := by
  intro l hl
  obtain ⟨t, ht, rfl⟩ := List.mem_map.1 hl
  exact linkOK_len (List.all_eq_true.1 h t ht)

theorem flowO_cells {w : World} {b : Nat} {f : FlowD} {A : Option Addr} {c : Nat} (h : w.heap[b]? = some (flowO f A c)) :
    w.cell? ⟨b, 0, none⟩ = some (.string (sb f.name)) ∧ w.cell? ⟨b, 1, none⟩ = some (.int .i64 f.deadline) ∧ w.cell? ⟨b, 2, none⟩ = some (.int .i64 f.priority) ∧ w.cell? ⟨b, 3, none⟩ = some (.slice A f.tasks.length c) ∧ b < w.heap.size :=
  ⟨Dag.blk_cell h 0, Dag.blk_cell h 1, Dag.blk_cell h 2, Dag.blk_cell h 3, Dag.blk_lt h⟩

set_option maxHeartbeats 3200000 in
theorem check_any (N : Nat) (Tb : World → Prop) (hN : NewOK N Tb) (hTb : ∀ w w', Tb w → Below w.heap.size w w' → Tb w') (f : FlowD) (A : Option Addr) (c : Nat) (w : World) (h : Tasks w A c f.tasks) (hT : Txt.Tabs w) (hS : TabS w) (hB : Tb w)
    (hl : f.name.length ≤ 9000000000000000000) (hn : ∀ t ∈ f.tasks, t.name.length ≤ 9000000000000000000) (hlen : f.tasks.length ≤ 4096 → f.tasks.length ≤ N) :
    Calls Tryd.prog 38 #[.agg #[.string (sb f.name), .int .i64 f.deadline, .int .i64 f.priority, .slice A f.tasks.length c]] w fun e w' => e = .returned (.int .i64 (checkE f)) ∧ Below w.heap.size w w' := by
  have hlm := h.lenI
  have H := Lib.hid h; clear h
  have HT := Lib.hid hT; clear hT
  have HS := Lib.hid hS; clear hS
  have HB := Lib.hid hB; clear hB
  unfold checkE
  have FL : Hid (∀ w1, Below (w.alloc (flowO f A c)).heap.size (w.alloc (flowO f A c)) w1 → w1.heap[w.heap.size]? = some (flowO f A c)) := Lib.hid fun w1 hb => keep_obj hb (heap_alloc_new w _)
  go_enter Tryd.func38, Tryd.ntmps38
  go_wp2_with fail
  refine (hasNames_any f A c _ (H.out.below (al _ _)) (HT.out.below (al _ _)) hl hn).mono ?_
  rintro e w1 ⟨rfl, hb1⟩
  have b1 := blw (al w (flowO f A c)) hb1
  cases e1 : namesOK f
  · go_wp2
    go_ret
    exact ⟨by first | rfl | simp, b1⟩
  have B1 := Lib.hid hb1
  have BB1 := Lib.hid b1
  obtain ⟨p0, p1, p2, p3, pl⟩ := flowO_cells (FL.out _ hb1)
  clear hb1 b1
  go_wp2_with fail
  refine (numbers_any f A c _ (H.out.below BB1.out) (HS.out.below BB1.out)).mono ?_
  rintro e w2 ⟨rfl, hb2⟩
  have b2 := blw B1.out hb2
  have bb2 := blw BB1.out hb2
  cases e2 : numbersOK f
  · go_wp2
    all_goals go_ret
    all_goals exact ⟨by first | rfl | simp, bb2⟩
  have B2 := Lib.hid b2
  have BB2 := Lib.hid bb2
  obtain ⟨q0, q1, q2, q3, ql⟩ := flowO_cells (FL.out _ b2)
  clear hb2 b2 bb2
  go_wp2_with fail
  refine (twins_any f.tasks A c _ (H.out.below BB2.out)).mono ?_
  rintro e w3 ⟨rfl, hb3⟩
  have b3 := blw B2.out hb3
  have bb3 := blw BB2.out hb3
  cases e3 : twins f.tasks
  case true =>
    go_wp2
    all_goals go_ret
    all_goals exact ⟨by first | rfl | simp, bb3⟩
  have B3 := Lib.hid b3
  have BB3 := Lib.hid bb3
  obtain ⟨r0, r1, r2, r3, rl⟩ := flowO_cells (FL.out _ b3)
  clear hb3 b3 bb3
  by_cases h4 : 4096 < f.tasks.length
  · go_wp2
    all_goals go_ret
    all_goals exact ⟨by first | rfl | simp [h4] | simp, BB3.out⟩
  go_wp2_with fail
  refine (links_any f.tasks A c _ (H.out.below BB3.out)).mono ?_
  rintro e w4 ⟨rfl, hb4⟩
  have b4 := blw B3.out hb4
  have bb4 := blw BB3.out hb4
  cases e4 : linksOK f.tasks
  · go_wp2
    all_goals go_ret
    all_goals exact ⟨by first | rfl | simp [h4] | simp, bb4⟩
  have B4 := Lib.hid b4
  have BB4 := Lib.hid bb4
  obtain ⟨s0, s1, s2, s3, sl⟩ := flowO_cells (FL.out _ b4)
  clear hb4 b4 bb4
  have hlN := hlen (by omega)
  have hll := linksOK_len e4
  have HLL := Lib.hid (show ∀ l ∈ afterL f.tasks, l.length ≤ N from fun l hm => Nat.le_trans (hll l hm) hlN)
  have HLT := Lib.hid (show ∀ t ∈ f.tasks, t.after.length ≤ 100000000 from fun t hm => Nat.le_trans (hll _ (List.mem_map_of_mem hm)) (by omega))
  clear hll
  go_wp2_with fail
  refine (after_any f A c _ (H.out.below BB4.out) (by omega) HLT.out).mono ?_
  rintro e w5 ⟨A5, c5, rfl, hi5, hb5⟩
  have BB5 := Lib.hid (blw BB4.out hb5)
  have HI5 := Lib.hid hi5
  clear hi5 hb5
  go_wp2_with fail
  refine (hN (afterL f.tasks) _ (after_len _) hlN HLL.out _ A5 c5 HI5.out (hTb _ _ HB.out BB5.out)).mono ?_
  rintro e w6 ⟨p, rfl, hb6⟩
  go_wp2
  all_goals go_ret
  all_goals exact ⟨by first | rfl | simp [h4] | simp, blw BB5.out hb6⟩

end Go.Proofs.YtgejonmjmieglaaDoor

