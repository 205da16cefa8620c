/- A map from names to numbers that the program makes. -/
import Derived.Test.YtkicanegjkemoaaDoorFlwMem
import Derived.Maps.Own
import Derived.Maps.OwnOps
import Derived.Maps.OwnSet
import Derived.StringKeys
namespace Go.Proofs.YtkicanegjkemoaaDoor
open Go.RowKit Go.Maps Go.WideMaps
set_option linter.unusedVariables false
set_option maxRecDepth 100000

theorem keyed_str : Keyed Tryd.prog 9 := string_keyed Tryd.underlying9
theorem zero_int (w : World) : (zeroValue 3).run Tryd.prog w = .ok (.int .i64 0) w := by kernel_rfl
def keyL (s : List UInt8) : Lit := .string s
theorem keyL_is (s : List UInt8) : WideAt.IsKeyLit (keyL s) := trivial
theorem keyL_ne {a b : List UInt8} (h : a ≠ b) : keyL a ≠ keyL b := by
  intro e
  injection e with e
  exact h e
theorem keyL_of {s : List UInt8} (h : s.length ≤ maxLen) : keyOf Tryd.prog 9 (.string (sb s)) = some (keyL s) := by
  rw [keyOf_string_mk Tryd.underlying9 (by rw [sb_size]; exact h), sb_list]; rfl
theorem run_makeMapH (w : World) (n : Int) : (Instr.makeMap 101 (some (.int .i64 n))).run Tryd.prog w = .ok (.map (some w.heap.size)) (w.alloc (.map #[] 0)) := by kernel_rfl

abbrev OwnM (w : World) (b n : Nat) (D : DataW Unit) : Prop := w.ownsMap Tryd.prog 9 (plainElem Tryd.prog 3) b n D
/-- block b is a map that holds, for each name, what g says -/
structure MapAt (w : World) (b n : Nat) (g : List UInt8 → Option Int) (m : Nat) : Prop where
  ex : ∃ D : DataW Unit, OwnM w b n D ∧ (∀ s, Maps.has D (keyL s) = (g s).isSome) ∧ (∀ s, D.atKey (keyL s) (.lit (.int .i64 0)) = .lit (.int .i64 ((g s).getD 0))) ∧ Maps.size D = m
def updM (g : List UInt8 → Option Int) (s : List UInt8) (x : Int) (t : List UInt8) : Option Int := if t = s then some x else g t
theorem MapAt.made (w : World) : MapAt (w.alloc (.map #[] 0)) w.heap.size 0 (fun _ => none) 0 :=
  ⟨.map [], World.ownsMap_made _ _ _ _, fun s => rfl, fun s => rfl, rfl⟩
theorem MapAt.lt {w : World} {b n m : Nat} {g : List UInt8 → Option Int} (h : MapAt w b n g m) : b < w.heap.size := by
  obtain ⟨D, h, _⟩ := h.ex
  exact h.lt
theorem MapAt.keep {w w' : World} {b n m : Nat} {g : List UInt8 → Option Int} (h : MapAt w b n g m) (hk : w'.heap[b]? = w.heap[b]?) : MapAt w' b n g m := by
  obtain ⟨D, ⟨es, clock, hb, r⟩, rest⟩ := h.ex
  exact ⟨D, ⟨es, clock, by rw [hk]; exact hb, r⟩, rest⟩
theorem MapAt.below {w w' : World} {b n m : Nat} {g : List UInt8 → Option Int} (h : MapAt w b n g m) (hb : Below w.heap.size w w') : MapAt w' b n g m := h.keep (hb.block b h.lt)
theorem MapAt.put {w' : World} {b n m : Nat} {g : List UInt8 → Option Int} {D : DataW Unit} (hD : Tidy D) (h1 : ∀ s, Maps.has D (keyL s) = (g s).isSome) (h2 : ∀ s, D.atKey (keyL s) (.lit (.int .i64 0)) = .lit (.int .i64 ((g s).getD 0))) (h3 : Maps.size D = m)
    {s : List UInt8} {x : Int} (hown : OwnM w' b (n + 1) (D.put (keyL s) (.lit (.int .i64 x)))) : MapAt w' b (n + 1) (updM g s x) (if (g s).isSome then m else m + 1) := by
  refine ⟨_, hown, fun t => ?_, fun t => ?_, ?_⟩
  · by_cases e : t = s
    · subst e; rw [Maps.has_put_same hD.isMap (keyL_is _)]; simp [updM]
    · rw [Maps.has_put_other (keyL_ne e), h1]; simp [updM, e]
  · by_cases e : t = s
    · subst e; rw [Maps.atKey_put_same hD.isMap (keyL_is _)]; simp [updM]
    · rw [Maps.atKey_put_other (keyL_ne e), h2]; simp [updM, e]
  · rw [Maps.size_put hD, h1, h3]
/-- what a map of the tasks' names holds, and how many different names there are -/
def nameMap (ns : List (List UInt8)) (s : List UInt8) : Option Int := if s ∈ ns then some (ns.idxOf s : Int) else none

theorem wpList_putM {w : World} {ops : Array Oper} {rest : List Oper} {o : Oper} {a : Act} {Q : Exit → Act → World → Prop} (hgd : o.guard = none) (mo xo vo : Operand) (hop : o.op = Op.mapUpdate 101 mo xo vo)
    {b n m : Nat} {g : List UInt8 → Option Int} (hm : a.eval mo = .map (some b)) (hown : MapAt w b n g m) (hn : n < maxLen) (s : List UInt8) (x : Int) (hx : a.eval xo = .string (sb s)) (hv : a.eval vo = .int .i64 x) (hs : s.length ≤ maxLen) (hw : (Lit.int .i64 x).wf = true)
    (hK : ∀ w', MapAt w' b (n + 1) (updM g s x) (if (g s).isSome then m else m + 1) → w.grownBy w' (some b) → wpList Tryd.prog ops Q rest (a.put o.dst undef) w') :
    wpList Tryd.prog ops Q (o :: rest) a w := by
  obtain ⟨D, ho, h1, h2, h3⟩ := hown.ex
  exact wpList_mapUpdate_own w hgd mo xo vo 101 hop 9 3 keyed_str Tryd.underlying101 _ b n D hm ho hn _ _ (keyL s) hx hv (keyL_of hs) (.lit (.int .i64 x)) [] (plainElem_int Tryd.underlying3 hw)
    fun w' h hg => hK w' (MapAt.put (ho.tidy keyed_str) h1 h2 h3 h) hg
theorem wpList_getM {w : World} {ops : Array Oper} {rest : List Oper} {o : Oper} {a : Act} {Q : Exit → Act → World → Prop} (hgd : o.guard = none) (mo xo : Operand) (hop : o.op = Op.lookup 101 mo xo true)
    {b n m : Nat} {g : List UInt8 → Option Int} (hm : a.eval mo = .map (some b)) (hown : MapAt w b n g m) (s : List UInt8) (hx : a.eval xo = .string (sb s)) (hs : s.length ≤ maxLen)
    (hK : wpList Tryd.prog ops Q rest (a.put o.dst (.tuple #[.int .i64 ((g s).getD 0), .bool (g s).isSome])) w) :
    wpList Tryd.prog ops Q (o :: rest) a w := by
  obtain ⟨D, ho, h1, h2, h3⟩ := hown.ex
  refine wpList_lookup_own_ok_int w hgd mo xo 101 hop 9 3 .i64 keyed_str Tryd.underlying101 Tryd.underlying3 (zero_int w) b n D hm ho _ (keyL s) hx (keyL_of hs) fun c hat hwc => ?_
  rw [h2 s] at hat
  injection hat with hat
  injection hat with _ hat
  rw [← hat, h1 s]
  exact hK
theorem wpList_lenM {w : World} {ops : Array Oper} {rest : List Oper} {o : Oper} {a : Act} {Q : Exit → Act → World → Prop} (hgd : o.guard = none) (mo : Operand) (hop : o.op = Op.call { callee := Callee.builtin Builtin.len, args := #[mo], argTypes := #[101] })
    {b n m : Nat} {g : List UInt8 → Option Int} (hm : a.eval mo = .map (some b)) (hown : MapAt w b n g m) (hK : wpList Tryd.prog ops Q rest (a.put o.dst (.int .i64 (m : Int))) w) :
    wpList Tryd.prog ops Q (o :: rest) a w := by
  obtain ⟨D, ho, h1, h2, h3⟩ := hown.ex
  subst h3
  exact wpList_len_own w hgd mo 101 hop 9 3 Tryd.underlying101 _ b n D hm ho hK

end Go.Proofs.YtkicanegjkemoaaDoor

/- Check, its parts that ask nothing of texts: a statement's limits, numbers, links. -/
namespace Go.Proofs.YtkicanegjkemoaaDoor
open Go.RowKit
set_option linter.unusedVariables false
set_option maxRecDepth 100000

def stV (s : ByteArray) (x a b : Int) : Value := .agg #[.string s, .int .i64 x, .int .i64 a, .int .i64 b]
set_option maxHeartbeats 800000 in
theorem allows_any (s : ByteArray) (x a b n : Int) (w : World) :
    Calls Tryd.prog 69 #[.agg #[.string s, .int .i64 x, .int .i64 a, .int .i64 b], .int .i64 n] w fun e w' => e = .returned (.bool (inR a b n)) ∧ Below w.heap.size w w' := by
  unfold inR
  by_cases h1 : a ≤ n
  · have e1 : decide (a ≤ n) = true := by simpa using h1
    go_enter Tryd.func69, Tryd.ntmps69
    go_wp2
    go_ret
    exact ⟨by first | rfl | (rw [e1]; rfl), al _ _⟩
  · have e1 : decide (a ≤ n) = false := by simpa using h1
    go_enter Tryd.func69, Tryd.ntmps69
    go_wp2
    go_ret
    exact ⟨by first | rfl | (rw [e1]; rfl), al _ _⟩

theorem all_snoc {α : Type} {p : α → Bool} {l : List α} {k : Nat} {x : α} (h : l[k]? = some x) (hp : p x = true) (hi : (l.take k).all p = true) : (l.take (k + 1)).all p = true := by
  rw [List.take_add_one, h, List.all_append, hi]; simp [hp]
theorem all_no {α : Type} {p : α → Bool} {l : List α} {k : Nat} {x : α} (h : l[k]? = some x) (hp : p x = false) : l.all p = false := by
  rw [List.all_eq_false]; exact ⟨x, List.mem_of_getElem? h, by simp [hp]⟩
theorem all_done {α : Type} {p : α → Bool} {l : List α} {k : Nat} (hk : ¬ k < l.length) (hi : (l.take k).all p = true) : l.all p = true := by
  rwa [List.take_of_length_le (Nat.not_lt.1 hk)] at hi
def flowO (f : FlowD) (A : Option Addr) (c : Nat) : Obj := .cells #[.string (sb f.name), .int .i64 f.deadline, .int .i64 f.priority, .slice A f.tasks.length c] 24 (0, 0)
theorem keep_obj {W w1 : World} (hb : Below W.heap.size W w1) {k : Nat} {o : Obj} (h : W.heap[k]? = some o) : w1.heap[k]? = some o :=
  (hb.block k (Array.getElem?_eq_some_iff.1 h).1).trans h
theorem keep_cell {W w1 : World} (hb : Below W.heap.size W w1) {p : Addr} {v : Value} (h : W.cell? p = some v) : w1.cell? p = some v :=
  (hb.cell (World.block_lt_of_cell? W _ h)).trans h

set_option maxHeartbeats 3200000 in
theorem numbers_any (f : FlowD) (A : Option Addr) (c : Nat) (w : World) (h : Tasks w A c f.tasks) (hS : TabS w) :
    Calls Tryd.prog 50 #[.agg #[.string (sb f.name), .int .i64 f.deadline, .int .i64 f.priority, .slice A f.tasks.length c]] w fun e w' => e = .returned (.bool (numbersOK f)) ∧ Below w.heap.size w w' := by
  have hlm : f.tasks.length ≤ 9223372036854775807 := Nat.le_trans h.cap (by have := h.top; simpa [maxLen] using this)
  have H := Lib.hid h; clear h
  have HS := Lib.hid hS; clear hS
  go_enter Tryd.func50, Tryd.ntmps50
  go_wp2
  go_loopw [8] (fun i wr => ∃ k : Nat, k ≤ f.tasks.length ∧ i = .int .i64 k ∧ Below w.heap.size w wr ∧ Hid (wr.heap[w.heap.size]? = some (flowO f A c)) ∧ Hid ((f.tasks.take k).all numsOK = true)) (fun i _ => f.tasks.length - (intOf i).toNat)
  case atStart => exact ⟨0, Nat.zero_le _, rfl, al _ _, Lib.hid (heap_alloc_new w _), Lib.hid rfl⟩
  case round =>
    obtain ⟨k, hk, rfl, hb, ho, hi⟩ := hrel
    by_cases hlt : k < f.tasks.length
    · obtain ⟨t, ht⟩ : ∃ t, f.tasks[k]? = some t := ⟨_, List.getElem?_eq_getElem hlt⟩
      obtain ⟨b, off, A', c', rfl, h0, h1, h2, h3, h4, h5, _⟩ := (H.out.below hb).cells k _ ht
      obtain ⟨s40, s41, s42, s43⟩ := (HS.out.below hb).s4
      obtain ⟨s50, s51, s52, s53⟩ := (HS.out.below hb).s5
      obtain ⟨s60, s61, s62, s63⟩ := (HS.out.below hb).s6
      have hg := (HS.out.below hb).lt
      have hno : ∀ t', f.tasks[k]? = some t' → numsOK t' = false → numbersOK f = false := fun t' h1 h2 => by unfold numbersOK; rw [all_no h1 h2]; rfl
      cases e4 : inR 1 10000 t.nodes
      · have HN := Lib.hid (hno t ht (by unfold numsOK; rw [e4]; rfl))
        clear hno ht
        go_wp2_with fail
        refine (allows_any _ _ _ _ _ _).mono ?_
        rintro e w1 ⟨rfl, hb1⟩
        obtain ⟨hc1, hf1⟩ := bl_cells hb1
        have hs1 : wr.heap.size < w1.heap.size := by have := hb1.size; simp at this; omega
        have hz1 : 0 < w1.heap.size := by omega
        go_wp2
        go_ret
        exact ⟨by rw [HN.out]; rfl, blw (blw hb (al wr _)) hb1⟩
      cases e5 : inR 1 maxT t.wall
      · have HN := Lib.hid (hno t ht (by unfold numsOK; rw [e5, Bool.false_and, Bool.and_false]))
        unfold maxT at e5
        clear hno ht
        go_wp2_with fail
        refine (allows_any _ _ _ _ _ _).mono ?_
        rintro e w1 ⟨rfl, hb1⟩
        obtain ⟨hc1, hf1⟩ := bl_cells hb1
        have hs1 : wr.heap.size < w1.heap.size := by have := hb1.size; simp at this; omega
        have hz1 : 0 < w1.heap.size := by omega
        go_wp2_with fail
        refine (allows_any _ _ _ _ _ _).mono ?_
        rintro e w2 ⟨rfl, hb2⟩
        obtain ⟨hc2, hf2⟩ := bl_cells hb2
        have hs2 := hb2.size
        go_wp2
        go_ret
        exact ⟨by rw [HN.out]; rfl, blw (blw (blw hb (al wr _)) hb1) hb2⟩
      cases e6 : inR 0 20 t.retry
      · have HN := Lib.hid (hno t ht (by unfold numsOK; rw [e6, Bool.and_false, Bool.and_false]))
        unfold maxT at e5
        clear hno ht
        go_wp2_with fail
        refine (allows_any _ _ _ _ _ _).mono ?_
        rintro e w1 ⟨rfl, hb1⟩
        obtain ⟨hc1, hf1⟩ := bl_cells hb1
        have hs1 : wr.heap.size < w1.heap.size := by have := hb1.size; simp at this; omega
        have hz1 : 0 < w1.heap.size := by omega
        go_wp2_with fail
        refine (allows_any _ _ _ _ _ _).mono ?_
        rintro e w2 ⟨rfl, hb2⟩
        obtain ⟨hc2, hf2⟩ := bl_cells hb2
        have hs2 := hb2.size
        go_wp2_with fail
        refine (allows_any _ _ _ _ _ _).mono ?_
        rintro e w3 ⟨rfl, hb3⟩
        obtain ⟨hc3, hf3⟩ := bl_cells hb3
        have hs3 := hb3.size
        go_wp2
        go_ret
        exact ⟨by rw [HN.out]; rfl, blw (blw (blw (blw hb (al wr _)) hb1) hb2) hb3⟩
      · have HN := Lib.hid (all_snoc ht (by unfold numsOK; rw [e4, e5, e6]; rfl) hi.out)
        unfold maxT at e5
        clear hno ht
        go_wp2_with fail
        refine (allows_any _ _ _ _ _ _).mono ?_
        rintro e w1 ⟨rfl, hb1⟩
        obtain ⟨hc1, hf1⟩ := bl_cells hb1
        have hs1 : wr.heap.size < w1.heap.size := by have := hb1.size; simp at this; omega
        have hz1 : 0 < w1.heap.size := by omega
        go_wp2_with fail
        refine (allows_any _ _ _ _ _ _).mono ?_
        rintro e w2 ⟨rfl, hb2⟩
        obtain ⟨hc2, hf2⟩ := bl_cells hb2
        have hs2 := hb2.size
        go_wp2_with fail
        refine (allows_any _ _ _ _ _ _).mono ?_
        rintro e w3 ⟨rfl, hb3⟩
        obtain ⟨hc3, hf3⟩ := bl_cells hb3
        have hs3 := hb3.size
        go_wp2
        have hbb := blw (blw (blw (blw hb (al wr _)) hb1) hb2) hb3
        go_roundw
        case rel => exact ⟨k + 1, by omega, by go_num, hbb, Lib.hid (keep_obj hb3 (keep_obj hb2 (keep_obj hb1 (keep_obj (al wr _) ho.out)))), HN⟩
        case measure => simp [intOf]; omega
    · obtain ⟨s10, s11, s12, s13⟩ := (HS.out.below hb).s1
      obtain ⟨s20, s21, s22, s23⟩ := (HS.out.below hb).s2
      have hg := (HS.out.below hb).lt
      have ha := all_done hlt hi.out
      have hof := ho.out
      have c1 := Dag.blk_cell hof 1
      have c2 := Dag.blk_cell hof 2
      have hlb := Dag.blk_lt hof
      simp at c1 c2
      clear hof
      cases e1 : inR 0 maxT f.deadline
      · have HN := Lib.hid (show numbersOK f = false from by unfold numbersOK; rw [e1, Bool.false_and, Bool.and_false])
        unfold maxT at e1
        clear ha
        go_wp2_with fail
        refine (allows_any _ _ _ _ _ _).mono ?_
        rintro e w1 ⟨rfl, hb1⟩
        go_wp2
        go_ret
        exact ⟨by rw [HN.out]; rfl, blw hb hb1⟩
      · cases e2 : inR 0 1000 f.priority
        all_goals
          have HN := Lib.hid (show numbersOK f = _ from by unfold numbersOK; rw [ha, e1, e2])
          unfold maxT at e1
          clear ha
          go_wp2_with fail
          refine (allows_any _ _ _ _ _ _).mono ?_
          rintro e w1 ⟨rfl, hb1⟩
          obtain ⟨hc1, hf1⟩ := bl_cells hb1
          go_wp2_with fail
          refine (allows_any _ _ _ _ _ _).mono ?_
          rintro e w2 ⟨rfl, hb2⟩
          go_wp2
          go_ret
          exact ⟨by rw [HN.out]; rfl, blw (blw hb hb1) hb2⟩

end Go.Proofs.YtkicanegjkemoaaDoor

/- Two tasks of one name; links; what each task waits for. -/
namespace Go.Proofs.YtkicanegjkemoaaDoor
open Go.RowKit
set_option linter.unusedVariables false
set_option maxRecDepth 100000

/-- how many different names there are -/
def diffN : List (List UInt8) → Nat
  | [] => 0
  | x :: l => if x ∈ l then diffN l else diffN l + 1
theorem diffN_le : ∀ l, diffN l ≤ l.length
  | [] => Nat.le_refl _
  | x :: l => by have := diffN_le l; unfold diffN; split <;> simp <;> omega
theorem diffN_nodup : ∀ l, diffN l = l.length ↔ l.Nodup
  | [] => by simp [diffN]
  | x :: l => by
    have h1 := diffN_le l
    have h2 := diffN_nodup l
    unfold diffN
    rw [List.nodup_cons, List.length_cons]
    split
    · rename_i h; constructor
      · intro e; omega
      · intro e; exact absurd h e.1
    · rename_i h
      constructor
      · intro e; exact ⟨h, h2.1 (by omega)⟩
      · intro e; rw [h2.2 e.2]
theorem diffN_snoc : ∀ (l : List (List UInt8)) (x : List UInt8), diffN (l ++ [x]) = if x ∈ l then diffN l else diffN l + 1
  | [], x => by simp [diffN]
  | y :: l, x => by
    rw [List.cons_append, diffN, diffN_snoc l x, diffN]
    by_cases hyx : y = x
    · subst hyx
      by_cases hy : y ∈ l <;> simp [hy]
    · have hxy : ¬ x = y := fun e => hyx e.symm
      by_cases hy : y ∈ l <;> by_cases hx : x ∈ l <;> simp [hy, hx, hyx, hxy]
theorem twins_iff (ts : List TaskD) : twins ts = decide (diffN (names ts) < ts.length) := by
  have h1 := diffN_le (names ts)
  have h2 := diffN_nodup (names ts)
  have h3 : (names ts).length = ts.length := by simp [names]
  unfold twins
  rw [h3] at h1 h2
  by_cases h : (names ts).Nodup
  · have := h2.2 h; simp [h, this]
  · have : ¬ diffN (names ts) = ts.length := fun e => h (h2.1 e)
    have h4 : diffN (names ts) < ts.length := by omega
    simp [h, h4]
theorem names_take {ts : List TaskD} {k : Nat} {t : TaskD} (h : ts[k]? = some t) : names (ts.take (k + 1)) = names (ts.take k) ++ [t.name] := by
  unfold names; rw [List.take_add_one, h]; simp

set_option maxHeartbeats 3200000 in
theorem twins_any (ts : List TaskD) (A : Option Addr) (c : Nat) (w : World) (h : Tasks w A c ts) :
    Calls Tryd.prog 51 #[.slice A ts.length c] w fun e w' => e = .returned (.bool (twins ts)) ∧ Below w.heap.size w w' := by
  have hlm := h.lenI
  have HC := Lib.hid h.cap; have HT := Lib.hid h.top
  have H := Lib.hid h; clear h
  rw [twins_iff]
  have hmm := fun (W : World) (n : Int) => run_makeMapH W n
  go_enter Tryd.func51, Tryd.ntmps51
  go_wp2
  go_loopw [11] (fun i wr => ∃ (k : Nat) (g : List UInt8 → Option Int), k ≤ ts.length ∧ i = .int .i64 k ∧ Below w.heap.size w wr ∧ Hid (MapAt wr w.heap.size k g (diffN (names (ts.take k)))) ∧ Hid (∀ s, (g s).isSome = decide (s ∈ names (ts.take k)))) (fun i _ => ts.length - (intOf i).toNat)
  case atStart => exact ⟨0, _, Nat.zero_le _, rfl, al _ _, Lib.hid (MapAt.made w), Lib.hid (fun s => by simp [names])⟩
  case round =>
    obtain ⟨k, g, hk, rfl, hb, hm, hi⟩ := hrel
    by_cases hlt : k < ts.length
    · obtain ⟨t, ht⟩ : ∃ t, ts[k]? = some t := ⟨_, List.getElem?_eq_getElem hlt⟩
      obtain ⟨b, off, A', c', rfl, h0, h1, h2, h3, h4, h5, _⟩ := (H.out.below hb).cells k _ ht
      have hnm := H.out.nm t (List.mem_of_getElem? ht)
      have hkm : k < maxLen := Nat.lt_of_lt_of_le hlt (Nat.le_trans HC.out HT.out)
      have hwf : (Lit.int .i64 (k : Int)).wf = true := WalkArith.wf_i64 (by omega)
      have HM1 : Hid (∀ o, MapAt (wr.alloc o) w.heap.size k g (diffN (names (ts.take k)))) := Lib.hid fun o => hm.out.below (al wr o)
      have hlb := hm.out.lt
      have HN := Lib.hid (show (if (g t.name).isSome then diffN (names (ts.take k)) else diffN (names (ts.take k)) + 1) = diffN (names (ts.take (k + 1))) from by
        rw [names_take ht, diffN_snoc, hi.out]; simp)
      have HG := Lib.hid (show ∀ s, (updM g t.name (k : Int) s).isSome = decide (s ∈ names (ts.take (k + 1))) from fun s => by
        rw [names_take ht]
        unfold updM
        by_cases e : s = t.name
        · simp [e]
        · rw [if_neg e, hi.out]; simp [e])
      have HW := Lib.hid hwf; have HKM := Lib.hid hkm; have HNM := Lib.hid hnm
      clear ht hwf hkm hnm
      go_wp2_with (at_mapUpdate; refine wpList_putM rfl _ _ _ rfl (b := w.heap.size) rfl (HM1.out _) HKM.out t.name (k : Int) rfl rfl HNM.out HW.out ?_; intro w1 hm1 hg1)
      rw [HN.out] at hm1
      go_roundw
      case rel => exact ⟨k + 1, _, by omega, by go_num, (blw hb (al wr _)).grown hg1 (by have := hb.size; simp; omega) (fun j hj => by cases hj; exact Nat.le_refl _), Lib.hid hm1, HG⟩
      case measure => simp [intOf]; omega
    · have hm1 := hm.out
      rw [List.take_of_length_le (Nat.not_lt.1 hlt)] at hm1
      obtain ⟨q, hq⟩ : ∃ q, diffN (names ts) = q := ⟨_, rfl⟩
      rw [hq] at hm1
      have HM := Lib.hid hm1; have HQ := Lib.hid hq; clear hm1 hq
      go_wp2_with (at_len; refine wpList_lenM rfl _ rfl (b := w.heap.size) rfl HM.out ?_)
      go_ret
      exact ⟨by rw [HQ.out]; first | rfl | simp, hb⟩

theorem rise_at {n : Nat} {L v : Int} {l : List Int} {j : Nat} (h : l[j]? = some v) : riseL n L (l.drop j) = (decide (L < v) && (decide (v < (n : Int)) && riseL n v (l.drop (j + 1)))) := by
  have hj := (List.getElem?_eq_some_iff.1 h).1
  rw [List.drop_eq_getElem_cons hj]
  have : l[j] = v := (List.getElem?_eq_some_iff.1 h).2
  rw [this, riseL]
theorem drop_nil {α : Type} {l : List α} {j : Nat} (h : ¬ j < l.length) : l.drop j = [] := List.drop_eq_nil_of_le (Nat.not_lt.1 h)

set_option maxHeartbeats 3200000 in
theorem links_any (ts : List TaskD) (A : Option Addr) (c : Nat) (w : World) (h : Tasks w A c ts) :
    Calls Tryd.prog 52 #[.slice A ts.length c] w fun e w' => e = .returned (.bool (linksOK ts)) ∧ Below w.heap.size w w' := by
  have hlm := h.lenI
  have H := Lib.hid h; clear h
  go_enter Tryd.func52, Tryd.ntmps52
  go_wp2
  go_loopw [10] (fun i wr => ∃ k : Nat, k ≤ ts.length ∧ i = .int .i64 k ∧ Below w.heap.size w wr ∧ Hid ((ts.take k).all (fun t => linkOK ts.length t.after) = true)) (fun i _ => ts.length - (intOf i).toNat)
  case atStart => exact ⟨0, Nat.zero_le _, rfl, Below.refl _ _, Lib.hid rfl⟩
  case round =>
    obtain ⟨k, hk, rfl, hb, hi⟩ := hrel
    by_cases hlt : k < ts.length
    · obtain ⟨t, ht⟩ : ∃ t, ts[k]? = some t := ⟨_, List.getElem?_eq_getElem hlt⟩
      obtain ⟨b, off, A', c', rfl, h0, h1, h2, h3, h4, h5, hI⟩ := (H.out.below hb).cells k _ ht
      have hll : t.after.length ≤ 9223372036854775807 := Nat.le_trans hI.len (by have := Dag.Sl.top hI; simpa [maxLen] using this)
      have HI := Lib.hid (show Dag.Ints (wr.alloc (.cells #[.string (sb t.name), .int .i64 t.nodes, .int .i64 t.wall, .int .i64 t.retry, .bool t.done, .slice A' t.after.length c'] 43)) A' c' t.after from hI.below (al wr _))
      clear hI
      have HY := Lib.hid (show linkOK ts.length t.after = true → (ts.take (k + 1)).all (fun t => linkOK ts.length t.after) = true from fun e => all_snoc ht e hi.out)
      have HN := Lib.hid (show linkOK ts.length t.after = false → linksOK ts = false from fun e => all_no ht e)
      clear ht
      go_wp2
      go_loop [5, 17] (fun l i => ∃ (j : Nat) (L : Int), j ≤ t.after.length ∧ i = .int .i64 j ∧ l = .int .i64 L ∧ Hid (linkOK ts.length t.after = riseL ts.length L (t.after.drop j))) (fun _ i => t.after.length - (intOf i).toNat)
      case atStart => exact ⟨0, -1, Nat.zero_le _, rfl, rfl, Lib.hid rfl⟩
      case round =>
        obtain ⟨j, L, hj, rfl, rfl, hL⟩ := hrel
        by_cases hjl : j < t.after.length
        · obtain ⟨b2, off2, v, rfl, hv, hcv⟩ := HI.out.at_ hjl
          by_cases h1 : v ≤ L
          · have hF := HN.out (by rw [hL.out, rise_at hv]; have : decide (L < v) = false := by simp; omega
                                  rw [this]; rfl)
            have HF := Lib.hid hF
            clear hF hv
            go_wp2
            go_ret
            exact ⟨by rw [HF.out]; rfl, blw hb (al wr _)⟩
          · by_cases h2 : v < (ts.length : Int)
            · have HS := Lib.hid (show linkOK ts.length t.after = riseL ts.length v (t.after.drop (j + 1)) from by
                rw [hL.out, rise_at hv]; have e1 : decide (L < v) = true := by simp; omega
                have e2 : decide (v < (ts.length : Int)) = true := by simp; omega
                rw [e1, e2]; rfl)
              clear hv
              go_wp2
              go_round
              case rel => exact ⟨j + 1, v, by omega, by go_num, rfl, HS⟩
              case measure => simp [intOf]; omega
            · have hF := HN.out (by rw [hL.out, rise_at hv]; have : decide (v < (ts.length : Int)) = false := by simp; omega
                                    rw [this]; simp)
              have HF := Lib.hid hF
              clear hF hv
              go_wp2
              go_ret
              exact ⟨by rw [HF.out]; rfl, blw hb (al wr _)⟩
        · have HS := Lib.hid (HY.out (by rw [hL.out, drop_nil hjl]; rfl))
          go_wp2
          go_roundw
          case rel => exact ⟨k + 1, by omega, by go_num, blw hb (al wr _), HS⟩
          case measure => simp [intOf]; omega
    · have HN := Lib.hid (show linksOK ts = true from all_done hlt hi.out)
      go_wp2
      go_ret
      exact ⟨by rw [HN.out]; rfl, hb⟩

end Go.Proofs.YtkicanegjkemoaaDoor


