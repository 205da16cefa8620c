/- Layer 6 in plain words: tasks, workflows, whether one may be, lines, texts. No program. -/
import Derived.Test.YtkicanegjkemoaaDoorTxtB
import Derived.Test.YtkicanegjkemoaaDoorClkA
import Derived.Test.YtkicanegjkemoaaDoorDagD
import Derived.Test.YtkicanegjkemoaaDoorFlwMem
namespace Go.Proofs.YtkicanegjkemoaaDoor
open Txt (bs nameD sameS wordsE wordsV linesE linesV)
open Clk (isT readE readV textL)
open Dag (newE num)
set_option linter.unusedVariables false

def childW : (List UInt8) := [67, 72, 73, 76, 68]
def taskName (s : (List UInt8)) : Bool := nameD s && !sameS s childW
def namesOK (f : FlowD) : Bool := f.tasks.all (fun t => taskName t.name) && nameD f.name
def checkE (f : FlowD) : Int :=
  if namesOK f = false then 5 else if numbersOK f = false then 2 else if twins f.tasks = true then 51 else if 4096 < f.tasks.length then 3 else if linksOK f.tasks = false then 2 else newE (afterL f.tasks)

/-! lines -/
def isKw (k : Nat) (s : (List UInt8)) : Bool := sameS (kwB k) s
/-- the index of a keyword -/
def keyOf? (s : (List UInt8)) : Option Nat := (List.range 9).find? fun k => isKw k s
def isChild (s : (List UInt8)) : Bool := sameS s childW
/-- the words of a PARENT line -/
def famD (l : List (List UInt8)) : Option (List (List UInt8)) :=
  let at_ := l.findIdx isChild
  if at_ = 0 ∨ l.length ≤ at_ + 1 ∨ (l.drop (at_ + 1)).any isChild = true then none else some (l.set at_ childW)
/-- a line of words, at least one -/
def classD (h : (List UInt8)) (l : List (List UInt8)) : Option (Nat × List (List UInt8)) :=
  match keyOf? h with
  | none => none
  | some 8 => (famD l).map fun x => (8, x)
  | some k => if (l.length : Int) = wordsN k then some (k, l) else none
def lineKw (l : List (List UInt8)) : (List UInt8) := match l with
  | [] => []
  | h :: t => match classD h t with
    | none => []
    | some (k, _) => kwB k
def lineWs (l : List (List UInt8)) : List (List UInt8) := match l with
  | [] => []
  | h :: t => match classD h t with
    | none => []
    | some (_, x) => x
def lineE (l : List (List UInt8)) : Int := match l with
  | [] => 0
  | h :: t => match classD h t with
    | none => 50
    | some _ => 0

/-! texts -/
def upB (f : Nat → Bool) (k j : Nat) : Bool := j == k || f j
structure TaskP where
  name : (List UInt8)
  nodes : Int
  wall : Int
  retry : Int
  done : Bool
  told : Nat → Bool
structure St where
  name : (List UInt8)
  deadline : Int
  priority : Int
  had : Nat → Bool
  tasks : List TaskP
  links : List (List Nat × List Nat)
def no9 (_ : Nat) : Bool := false
def St.start : St := ⟨[], 0, 0, no9, [], []⟩
def numE (k : Nat) (s : (List UInt8)) : Int := if readE s ≠ 0 then readE s else if inR (leastN k) (mostN k) (readV s) = true then 0 else 2
def namesP (ts : List TaskP) : List (List UInt8) := ts.map TaskP.name
def newTask (n : (List UInt8)) : TaskP := ⟨n, 1, 1, 0, false, no9⟩
/-- told of it, once -/
def TaskP.mark (t : TaskP) (k : Nat) : TaskP := { t with told := upB t.told k }
def TaskP.put (t : TaskP) (k : Nat) (n : Int) : TaskP :=
  match k with
  | 4 => { t with nodes := n }
  | 5 => { t with wall := n }
  | 6 => { t with retry := n }
  | _ => { t with done := true }
def idxs (ns : List (List UInt8)) (l : List (List UInt8)) : Option (List Nat) := if l.all (fun s => decide (s ∈ ns)) = true then some (l.map fun s => ns.idxOf s) else none
def beginSt (s : St) (a : List UInt8) : Except Int St :=
  if s.had 0 = true then .error 51 else if nameD a = false then .error 5 else .ok { s with name := a, had := upB s.had 0 }
def setSt (s : St) (k : Nat) (a : List UInt8) : Except Int St :=
  if s.had k = true then .error 51 else if numE k a ≠ 0 then .error (numE k a) else
  .ok (if k = 1 then { s with deadline := readV a, had := upB s.had 1 } else { s with priority := readV a, had := upB s.had 2 })
def jobSt (s : St) (a : List UInt8) : Except Int St :=
  if taskName a = false then .error 5 else if a ∈ namesP s.tasks then .error 51 else .ok { s with tasks := s.tasks ++ [newTask a] }
def parSt (s : St) (l : List (List UInt8)) : Except Int St :=
  match idxs (namesP s.tasks) (l.take (l.idxOf childW)), idxs (namesP s.tasks) (l.drop (l.idxOf childW + 1)) with
    | some p, some c => .ok { s with links := s.links ++ [(p, c)] }
    | _, _ => .error 52
/-- a line of task t, which is the v-th -/
def telSt (s : St) (k v : Nat) (t : TaskP) (r : List (List UInt8)) : Except Int St :=
  if t.told k = true then .error 51 else
  if k = 7 then .ok { s with tasks := s.tasks.set v ((t.mark 7).put 7 0) } else
  match r with
  | [] => .error 50
  | b :: _ => if numE k b ≠ 0 then .error (numE k b) else .ok { s with tasks := s.tasks.set v ((t.mark k).put k (readV b)) }
def taskSt (s : St) (k : Nat) (a : List UInt8) (r : List (List UInt8)) : Except Int St :=
  if a ∈ namesP s.tasks then
    match s.tasks[(namesP s.tasks).idxOf a]? with
    | none => .error 52
    | some t => telSt s k ((namesP s.tasks).idxOf a) t r
  else .error 52
def addSt (s : St) (k : Nat) (l : List (List UInt8)) : Except Int St :=
  if k ≠ 0 ∧ s.had 0 = false then .error 50 else
  if k = 8 then parSt s l else
  match l with
  | [] => .error 50
  | a :: r => if k = 0 then beginSt s a else if k = 1 ∨ k = 2 then setSt s k a else if k = 3 then jobSt s a else taskSt s k a r
/-- a line with words -/
def addW (s : St) (h : (List UInt8)) (t : List (List UInt8)) : Except Int St :=
  match classD h t with
  | none => .error 50
  | some (k, l) => addSt s k l
/-- one line -/
def lineSt (s : St) (l : List UInt8) : Except Int St :=
  if wordsE l ≠ 0 then .error (wordsE l) else
  match wordsV l with
  | [] => .ok s
  | h :: t => addW s h t
def feed : St → Nat → List (List UInt8) → (Nat × Int) ⊕ St
  | s, _, [] => .inr s
  | s, i, l :: ls => match lineSt s l with
    | .error e => .inl (i + 1, e)
    | .ok s' => feed s' (i + 1) ls
/-- who waits for whom -/
def aft (links : List (List Nat × List Nat)) (n w : Nat) : List Nat := (List.range n).filter fun v => links.any fun k => decide (v ∈ k.1) && decide (w ∈ k.2)
def TaskP.full (links : List (List Nat × List Nat)) (n w : Nat) (t : TaskP) : TaskD := ⟨t.name, t.nodes, t.wall, t.retry, t.done, num (aft links n w)⟩
def fullL (links : List (List Nat × List Nat)) (n : Nat) : Nat → List TaskP → List TaskD
  | _, [] => []
  | w, t :: ts => t.full links n w :: fullL links n (w + 1) ts
def St.flow (s : St) : FlowD := ⟨s.name, s.deadline, s.priority, fullL s.links s.tasks.length 0 s.tasks⟩
def noFlow : FlowD := ⟨[], 0, 0, []⟩
def parseD (l : List UInt8) : FlowD × Nat × Int :=
  if linesE l ≠ 0 then (noFlow, 0, linesE l) else
  match feed St.start 0 (linesV l) with
  | .inl (i, e) => (noFlow, i, e)
  | .inr s => if s.had 0 = false then (noFlow, 0, 50) else if checkE s.flow ≠ 0 then (noFlow, 0, checkE s.flow) else (s.flow, 0, 0)

/-! the text of a workflow -/
def spL : List (List UInt8) → List UInt8
  | [] => []
  | w :: ws => 32 :: w ++ spL ws
/-- one line: a keyword, and words -/
def lnL (k : Nat) (ws : List (List UInt8)) : List UInt8 := kwB k ++ 32 :: (Txt.joinL ws ++ [10])
def numL (k : Nat) (n : Int) (pre : List (List UInt8)) : List UInt8 := if n ≠ leastN k then lnL k (pre ++ [textL n]) else []
def taskL (t : TaskD) : List UInt8 :=
  lnL 3 [t.name] ++ (numL 4 t.nodes [t.name] ++ (numL 5 t.wall [t.name] ++ (numL 6 t.retry [t.name] ++ if t.done = true then lnL 7 [t.name] else [])))
def nameAt (ts : List TaskD) (v : Int) : List UInt8 := match ts[v.toNat]? with
  | some t => t.name
  | none => []
def parL (ts : List TaskD) (t : TaskD) : List UInt8 := if t.after = [] then [] else lnL 8 (t.after.map (nameAt ts) ++ [childW, t.name])
def flatL {α : Type} (g : α → List UInt8) : List α → List UInt8
  | [] => []
  | x :: r => g x ++ flatL g r
def printL (f : FlowD) : List UInt8 :=
  lnL 0 [f.name] ++ (numL 1 f.deadline [] ++ (numL 2 f.priority [] ++ (flatL taskL f.tasks ++ flatL (parL f.tasks) f.tasks)))

end Go.Proofs.YtkicanegjkemoaaDoor

