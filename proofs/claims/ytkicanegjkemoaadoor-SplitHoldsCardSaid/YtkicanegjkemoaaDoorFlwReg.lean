/- Rows of elements of several cells; a draft in memory: what the lines up to some line say. -/
import Derived.Test.YtkicanegjkemoaaDoorFlwTwn
import Derived.Test.YtkicanegjkemoaaDoorFlwCls
import Derived.Test.YtkicanegjkemoaaDoorFlwCheck
import Derived.OrdersHeld
import Derived.StillTail
import Derived.Deep.RegionHeld
namespace Go.Proofs.YtkicanegjkemoaaDoor
open Go.RowKit
open Dag (Sl Own1 Ints ints num)
set_option linter.unusedVariables false
set_option maxRecDepth 100000

def flat {α : Type} (c : α → List Value) : List α → List Value
  | [] => []
  | a :: l => c a ++ flat c l
section
variable {α : Type} {c : α → List Value} {sz : Nat}
theorem flat_len (hc : ∀ a, (c a).length = sz) : ∀ l : List α, (flat c l).length = l.length * sz
  | [] => by simp [flat]
  | a :: l => by rw [flat, List.length_append, hc, flat_len hc l, List.length_cons, Nat.succ_mul, Nat.add_comm]
theorem flat_app (l : List α) (a : α) : flat c (l ++ [a]) = flat c l ++ c a := by
  induction l with
  | nil => simp [flat]
  | cons b l ih => rw [List.cons_append, flat, ih, flat, List.append_assoc]
theorem flat_get (hc : ∀ a, (c a).length = sz) : ∀ (l : List α) (k j : Nat) (a : α), l[k]? = some a → j < sz → (flat c l)[k * sz + j]? = (c a)[j]?
  | [], k, j, a, h, _ => by simp at h
  | b :: l, 0, j, a, h, hj => by
    simp at h; subst h
    rw [flat, Nat.zero_mul, Nat.zero_add, List.getElem?_append_left (by rw [hc]; exact hj)]
  | b :: l, k + 1, j, a, h, hj => by
    rw [List.getElem?_cons_succ] at h
    rw [flat, List.getElem?_append_right (by rw [hc, Nat.succ_mul]; omega), hc]
    rw [show (k + 1) * sz + j - sz = k * sz + j from by rw [Nat.succ_mul]; omega]
    exact flat_get hc l k j a h hj
theorem flat_set (hc : ∀ a, (c a).length = sz) : ∀ (l : List α) (k j : Nat) (a a' : α) (x : Value), l[k]? = some a → j < sz → (c a).set j x = c a' → (flat c l).set (k * sz + j) x = flat c (l.set k a')
  | [], k, j, a, a', x, h, _, _ => by simp at h
  | b :: l, 0, j, a, a', x, h, hj, he => by
    simp at h; subst h
    rw [flat, Nat.zero_mul, Nat.zero_add, List.set_append, if_pos (by rw [hc]; exact hj), he, List.set_cons_zero, flat]
  | b :: l, k + 1, j, a, a', x, h, hj, he => by
    rw [List.getElem?_cons_succ] at h
    rw [flat, List.set_append, if_neg (by rw [hc, Nat.succ_mul]; omega), hc, List.set_cons_succ, flat]
    rw [show (k + 1) * sz + j - sz = k * sz + j from by rw [Nat.succ_mul]; omega]
    rw [flat_set hc l k j a a' x h hj he]
end

/-- a row of elements of sz cells that the call made -/
abbrev OwnN (w : World) (base : Nat) (e : TypeId) (sz : Nat) (A : Option Addr) (n c : Nat) (us : List Value) : Prop := w.ownsRow base e sz (.slice A n c) n us
section
variable {w w' : World} {base n c sz : Nat} {A : Option Addr} {e : TypeId} {us : List Value}
theorem OwnN.keep (h : OwnN w base e sz A n c us) (hk : ∀ (b : Nat) (cs : Array Value), w.heap[b]? = some (Obj.cells cs e (0, 0)) → w'.heap[b]? = w.heap[b]?) : OwnN w' base e sz A n c us := by
  refine ⟨h.1, ?_⟩
  rcases h.2 with h0 | ⟨g, cap, cur, hv, hbg, hh, rest⟩
  · exact Or.inl h0
  · exact Or.inr ⟨g, cap, cur, hv, hbg, by rw [hk g _ hh]; exact hh, rest⟩
theorem OwnN.lt (h : OwnN w base e sz A n c us) {a : Addr} (ha : A = some a) : base ≤ a.block ∧ a.block < w.heap.size ∧ ∃ cs, w.heap[a.block]? = some (Obj.cells cs e (0, 0)) := by
  subst ha
  rcases h.2 with ⟨hv, _⟩ | ⟨g, cap, cur, hv, hbg, hh, _⟩
  · cases hv
  · injection hv with hv; injection hv with hv; subst hv
    exact ⟨hbg, Dag.blk_lt hh, _, hh⟩
theorem OwnN.cap (h : OwnN w base e sz A n c us) : n ≤ c ∧ c ≤ maxLen ∧ (A = none → c = 0) := by
  rcases h.2 with ⟨hv, hn⟩ | ⟨g, cap, cur, hv, hbg, hh, h1, h2, _⟩
  · injection hv with h1 h2 h3; subst h1 h3; exact ⟨by omega, Nat.zero_le _, fun _ => rfl⟩
  · injection hv with e1 e2 e3; subst e1 e3; exact ⟨h1, h2, fun e => by cases e⟩
/-- one cell of it -/
theorem OwnN.at_ (h : OwnN w base e sz A n c us) {i : Nat} {u : Value} (hk : us[i]? = some u) :
    ∃ g, A = some ⟨g, 0, none⟩ ∧ base ≤ g ∧ g < w.heap.size ∧ w.cell? ⟨g, i, none⟩ = some u ∧ w.frozen? ⟨g, i, none⟩ = false ∧ (∃ cs, w.heap[g]? = some (Obj.cells cs e (0, 0))) ∧
      (∀ x, OwnN (w.setCell ⟨g, i, none⟩ x) base e sz A n c (us.set i x)) := by
  have hh := h
  rcases h.2 with ⟨hv, h0⟩ | ⟨g, cap, cur, hv, hbg, hg, h1, h2, h3, h4⟩
  · have := h.1; rw [h0, Nat.zero_mul] at this
    rw [List.eq_nil_of_length_eq_zero this] at hk; simp at hk
  · injection hv with a1 a2 a3
    subst a1 a3
    have hi : i < us.length := (List.getElem?_eq_some_iff.1 hk).1
    refine ⟨_, rfl, hbg, Dag.blk_lt hg, ?_, Dag.blk_frozen hg i, ⟨_, hg⟩, fun x => (World.ownsRow.stored hh i x).1⟩
    rw [cell_of_row w g i cur _ (0, 0) hg]
    have e' : (cur.toList.take (n * sz))[i]? = some u := by rw [h4]; exact hk
    rw [List.getElem?_take, if_pos (by have := h.1; omega)] at e'
    rw [← e', Array.getElem?_toList]
end

/-! a draft -/
def taskC (t : TaskP) : List Value := [.string (sb t.name), .int .i64 t.nodes, .int .i64 t.wall, .int .i64 t.retry, .bool t.done, .slice none 0 0]
def marksC (f : Nat → Bool) : List Value := [.bool (f 0), .bool (f 1), .bool (f 2), .bool (f 3), .bool (f 4), .bool (f 5), .bool (f 6), .bool (f 7), .bool (f 8)]
def toldC (t : TaskP) : List Value := marksC t.told
theorem taskC_len (t : TaskP) : (taskC t).length = 6 := rfl
theorem toldC_len (t : TaskP) : (toldC t).length = 9 := rfl
def draftC (s : St) (TA : Option Addr) (tc : Nat) (HA : Option Addr) (hc : Nat) (LA : Option Addr) (lc M : Nat) : Array Value :=
  #[.string (sb s.name), .int .i64 s.deadline, .int .i64 s.priority, .slice TA s.tasks.length tc, .bool (s.had 0), .bool (s.had 1), .bool (s.had 2), .bool (s.had 3), .bool (s.had 4), .bool (s.had 5), .bool (s.had 6), .bool (s.had 7), .bool (s.had 8), .map (some M), .slice HA s.tasks.length hc, .slice LA s.links.length lc]
/-- numbers in a block of numbers -/
structure IntsT (w : World) (A : Option Addr) (c : Nat) (xs : List Int) : Prop where
  ints : Ints w A c xs
  typ : ∀ a, A = some a → ∃ cs, w.heap[a.block]? = some (Obj.cells cs 3 (0, 0))
theorem IntsT.keep {w w' : World} {A : Option Addr} {c : Nat} {xs : List Int} (h : IntsT w A c xs) (hk : ∀ (b : Nat) (cs : Array Value), w.heap[b]? = some (Obj.cells cs 3 (0, 0)) → w'.heap[b]? = w.heap[b]?) : IntsT w' A c xs := by
  refine ⟨⟨fun k u hu => ?_, h.ints.cap, h.ints.top, h.ints.nil⟩, fun a ha => ?_⟩
  · obtain ⟨b, off, e, hc⟩ := h.ints.cells k u hu
    obtain ⟨cs, hcs⟩ := h.typ _ e
    exact ⟨b, off, e, (cell_keep (p := ⟨b, off + k, none⟩) (hk b cs hcs)).trans hc⟩
  · obtain ⟨cs, hcs⟩ := h.typ a ha
    exact ⟨cs, (hk _ cs hcs).trans hcs⟩
/-- the same numbers, in whatever order -/
def SameM (xs : List Int) (p : List Nat) : Prop := ∀ x : Int, x ∈ xs ↔ x ∈ num p
def LinksAt (w : World) (lv : List Value) (links : List (List Nat × List Nat)) : Prop := lv.length = links.length * 2 ∧ ∀ i p c, links[i]? = some (p, c) →
  ∃ A1 c1 xs A2 c2 ys, lv[i * 2]? = some (.slice A1 xs.length c1) ∧ lv[i * 2 + 1]? = some (.slice A2 ys.length c2) ∧ IntsT w A1 c1 xs ∧ IntsT w A2 c2 ys ∧ SameM xs p ∧ SameM ys c ∧ xs.length ≤ 1000000 ∧ ys.length ≤ 1000000 ∧ xs.Nodup ∧ ys.Nodup
theorem LinksAt.keep {w w' : World} {lv : List Value} {links : List (List Nat × List Nat)} (h : LinksAt w lv links) (hk : ∀ (b : Nat) (cs : Array Value), w.heap[b]? = some (Obj.cells cs 3 (0, 0)) → w'.heap[b]? = w.heap[b]?) : LinksAt w' lv links := by
  refine ⟨h.1, fun i p c hi => ?_⟩
  obtain ⟨A1, c1, xs, A2, c2, ys, h1, h2, h3, h4, r⟩ := h.2 i p c hi
  exact ⟨A1, c1, xs, A2, c2, ys, h1, h2, h3.keep hk, h4.keep hk, r⟩
def nameI (ts : List TaskP) (s : List UInt8) : Option Int := if s ∈ namesP ts then some ((namesP ts).idxOf s : Int) else none
/-- the blocks of all of these types are as they were -/
def Kept (tys : List TypeId) (w w' : World) : Prop := (∀ ty ∈ tys, ∀ (b : Nat) (cs : Array Value), w.heap[b]? = some (Obj.cells cs ty (0, 0)) → w'.heap[b]? = w.heap[b]?)
def KeptM (w w' : World) : Prop := ∀ (b : Nat) es n, w.heap[b]? = some (Obj.map es n) → w'.heap[b]? = w.heap[b]?
theorem MapAt.keepM {w w' : World} {b n m : Nat} {g : List UInt8 → Option Int} (h : MapAt w b n g m) (hk : KeptM w w') : MapAt w' b n g m := by
  obtain ⟨D, ⟨es, clock, hb, r⟩, rest⟩ := h.ex
  exact ⟨D, ⟨es, clock, by rw [hk b _ _ hb]; exact hb, r⟩, rest⟩
section
variable {w w' : World} {base : Nat} {ts : List TaskP} {links : List (List Nat × List Nat)} {TA : Option Addr} {tc : Nat} {HA : Option Addr} {hc : Nat} {LA : Option Addr} {lc M : Nat}
end
theorem Kept.below {tys : List TypeId} {w w' : World} (hb : Below w.heap.size w w') : Kept tys w w' := fun ty _ b cs h => hb.block b (Dag.blk_lt h)
theorem KeptM.below {w w' : World} (hb : Below w.heap.size w w') : KeptM w w' := fun b es n h => hb.block b (Array.getElem?_eq_some_iff.1 h).1
theorem ty_ne {w : World} {g b : Nat} {cs cs' : Array Value} {t t' : TypeId} (h : w.heap[g]? = some (Obj.cells cs t (0, 0))) (h' : w.heap[b]? = some (Obj.cells cs' t' (0, 0))) (ht : t ≠ t') : g ≠ b := by
  intro e; subst e; rw [h] at h'; injection h' with h'; injection h' with _ h'; exact ht h'
theorem Kept.set {tys : List TypeId} {w : World} {g i : Nat} {u : Value} {cs : Array Value} {t : TypeId} (h : w.heap[g]? = some (Obj.cells cs t (0, 0))) (ht : t ∉ tys) : Kept tys w (w.setCell ⟨g, i, none⟩ u) :=
  fun ty hty b cs' hb => Dag.blk_other (ty_ne hb h (fun e => ht (e ▸ hty)))
theorem KeptM.set {w : World} {g i : Nat} {u : Value} {cs : Array Value} {t : TypeId} (h : w.heap[g]? = some (Obj.cells cs t (0, 0))) : KeptM w (w.setCell ⟨g, i, none⟩ u) :=
  fun b es n hb => Dag.blk_other (fun e => by subst e; rw [h] at hb; cases hb)
theorem Kept.grown {tys : List TypeId} {w w' : World} {v : Value} {n : Nat} {us : List Value} {base sz : Nat} {e : TypeId} (hg : w.grownBy w' v.ownBlock) (ho : w.ownsRow base e sz v n us) (ht : e ∉ tys) : Kept tys w w' := by
  intro ty hty b cs hb
  refine hg.block b (Dag.blk_lt hb) fun e2 => ?_
  rcases ho.2 with ⟨hv, _⟩ | ⟨g, cap, cur, hv, _, hh, _⟩
  · rw [hv] at e2; cases e2
  · rw [hv] at e2; injection e2 with e2; subst e2
    exact ty_ne hb hh (fun e3 => ht (e3 ▸ hty)) rfl
theorem KeptM.grown {w w' : World} {v : Value} {n : Nat} {us : List Value} {base sz : Nat} {e : TypeId} (hg : w.grownBy w' v.ownBlock) (ho : w.ownsRow base e sz v n us) : KeptM w w' := by
  intro b es m hb
  refine hg.block b (Array.getElem?_eq_some_iff.1 hb).1 fun e2 => ?_
  rcases ho.2 with ⟨hv, _⟩ | ⟨g, cap, cur, hv, _, hh, _⟩
  · rw [hv] at e2; cases e2
  · rw [hv] at e2; injection e2 with e2; subst e2
    rw [hh] at hb; cases hb
theorem Kept.map {tys : List TypeId} {w w' : World} {M n m : Nat} {g : List UInt8 → Option Int} (hg : w.grownBy w' (some M)) (hm : MapAt w M n g m) : Kept tys w w' := by
  intro ty hty b cs hb
  obtain ⟨D, ⟨es, clock, hM, r⟩, rest⟩ := hm.ex
  refine hg.block b (Dag.blk_lt hb) fun e2 => ?_
  injection e2 with e2; subst e2
  rw [hM] at hb; cases hb

end Go.Proofs.YtkicanegjkemoaaDoor

/- A number of a line; the lines that name the workflow or tell its numbers. -/
namespace Go.Proofs.YtkicanegjkemoaaDoor
open Go.RowKit
open Clk (readE readV)
open Txt (nameD)
set_option linter.unusedVariables false
set_option maxRecDepth 100000

def numV (k : Nat) (s : List UInt8) : Int := if numE k s = 0 then readV s else 0
def RetNum (k : Nat) (s : List UInt8) (w : World) (e : Ending) (w' : World) : Prop := e = .returned (.tuple #[.int .i64 (numV k s), .int .i64 (numE k s)]) ∧ Below w.heap.size w w'
section
variable {w : World} {base D : Nat} {s : St} {TA HA LA : Option Addr} {tc hc lc M : Nat}
end
end Go.Proofs.YtkicanegjkemoaaDoor

/- Regions that draw their order: reads, one or two operations that make memory, and behind them what waits for all of these. -/
namespace Go.Proofs.YtkicanegjkemoaaDoor
set_option linter.unusedVariables false

section
variable {P : Program} {ops : Array Oper} {Q : Exit → Act → World → Prop} {md : Region.Mode} {S : World → Prop} {n : Nat}

/-- whatever order is picked from here on; S holds behind each operation ahead of number n -/
def wpAnyR (P : Program) (md : Region.Mode) (ops : Array Oper) (Q : Exit → Act → World → Prop) (S : World → Prop) (n : Nat) : Nat → Array Bool → Act → World → Prop
  | 0, listed, a, w => Region.ready md ops listed = [] ∧ Q .normal a w
  | fuel + 1, listed, a, w =>
    (Region.ready md ops listed = [] → Q .normal a w) ∧
    ∀ i ∈ Region.ready md ops listed, wpOp P ops Q i (fun a' w' => (n ≤ i ∨ S w') ∧ wpAnyR P md ops Q S n fuel (listed.setIfInBounds i true) a' w') a w

theorem wpAny_of_R : ∀ (fuel : Nat) (listed : Array Bool) (a : Act) (w : World), wpAnyR P md ops Q S n fuel listed a w → wpAny P md ops Q fuel listed a w
  | 0, _, _, _, h => h
  | fuel + 1, _, _, _, h => ⟨h.1, fun i hi => wpOp_mono (fun a' w' h' => wpAny_of_R fuel _ a' w' h'.2) (h.2 i hi)⟩

theorem wpAnyR_first {i : Nat} {oi : Oper} {v : Value} (hi : ops[i]? = some oi) (hsel : ∀ (j : Nat) (o : Oper) cs b, ops[j]? = some o → o.op ≠ .select cs b)
    (hQ : ∀ c a w, Q (.panic c) (a.put oi.dst v) w → Q (.panic c) a w)
    (hl : ∀ j oj, ops[j]? = some oj → n ≤ j → ∃ e ∈ oj.after, Region.binds md e = true ∧ e.on = i) :
    ∀ (fuel : Nat) (listed : Array Bool) (a : Act) (w : World),
      (∀ j oj, ops[j]? = some oj → j ≠ i → listed.getD j true = false → (∀ e ∈ oj.after, Region.binds md e = true → e.on ≠ i) → oi.apart ops oj = true) →
      i ∈ Region.ready md ops listed → YieldsIf P ops S oi v a → S w →
      wpAnyR P md ops Q S n fuel (listed.setIfInBounds i true) (a.put oi.dst v) w → wpAnyR P md ops Q S n (fuel + 1) listed a w := by
  intro fuel
  induction fuel with
  | zero =>
    intro listed a w _ hr hy hS H
    refine ⟨fun h => (by rw [h] at hr; cases hr), fun j hj => ?_⟩
    by_cases hji : j = i
    · subst hji; exact hy.wpOp hi hS ⟨Or.inr hS, H⟩
    · have := ready_mono hj hji
      rw [H.1] at this
      cases this
  | succ fuel ih =>
    intro listed a w hfree hr hy hS H
    refine ⟨fun h => (by rw [h] at hr; cases hr), fun j hj => ?_⟩
    by_cases hji : j = i
    · subst hji; exact hy.wpOp hi hS ⟨Or.inr hS, H⟩
    · have h1 := H.2 j (ready_mono hj hji)
      obtain ⟨hjun, oj, hoj, hall⟩ := mem_ready.1 hj
      have hnot : ∀ e ∈ oj.after, Region.binds md e = true → e.on ≠ i := fun e he hb heq => by
        have h1 := hall e he hb
        have h0 := (mem_ready.1 hr).1
        rw [heq] at h1
        rcases Nat.lt_or_ge i listed.size with h' | h'
        · simp [h'] at h0 h1; rw [h0] at h1; cases h1
        · simp [Array.getElem?_eq_none h'] at h1
      have h2 := wpOp_putIf hoj (hfree j oj hoj hji hjun hnot) (fun cs b => hsel i oi cs b hi) (fun cs b => hsel j oj cs b hoj) hQ hy h1
      have hfree' : ∀ k ok, ops[k]? = some ok → k ≠ i → (listed.setIfInBounds j true).getD k true = false →
          (∀ e ∈ ok.after, Region.binds md e = true → e.on ≠ i) → oi.apart ops ok = true := fun k ok hk hki hun hno => by
        refine hfree k ok hk hki ?_ hno
        by_cases hjk : j = k
        · subst hjk; exact hjun
        · rw [getD_set_ne true hjk] at hun; exact hun
      refine wpOp_mono (fun a' w' h3 => ?_) h2
      have hS' : S w' := by
        rcases h3.2.1 with h | h
        · obtain ⟨e, he, hb, hon⟩ := hl j oj hoj h
          exact absurd hon (hnot e he hb)
        · exact h
      refine ⟨Or.inr hS', ih (listed.setIfInBounds j true) a' w' hfree' (ready_mono hr (Ne.symm hji)) h3.1 hS' ?_⟩
      rw [Array.setIfInBounds_comm _ _ hji]
      exact h3.2.2

/-- all from number n on wait for number i -/
def lateB (md : Region.Mode) (ops : Array Oper) (n i : Nat) : Bool := (List.range ops.size).all fun j => decide (j < n) || Region.waitsFor md ops j i
theorem lateB_spec {i : Nat} (h : lateB md ops n i = true) (j : Nat) (oj : Oper) (hj : ops[j]? = some oj) (hn : n ≤ j) : ∃ e ∈ oj.after, Region.binds md e = true ∧ e.on = i := by
  have h1 := List.all_eq_true.1 h j (List.mem_range.2 (Array.getElem?_eq_some_iff.1 hj).1)
  rw [show decide (j < n) = false from decide_eq_false (by omega), Bool.false_or] at h1
  obtain ⟨oj', hoj', e, he, hb, hon⟩ := Region.waitsFor_spec h1
  rw [hj] at hoj'
  injection hoj' with hoj'
  subst hoj'
  exact ⟨e, he, hb, hon⟩
theorem wpAnyR_take {i : Nat} {oi : Oper} {v : Value} {fuel : Nat} {listed : Array Bool} {a : Act} {w : World} (hi : ops[i]? = some oi)
    (hs : Region.noSelect ops = true) (hf : Region.free md ops listed i = true) (hr : (Region.ready md ops listed).contains i = true) (hl : lateB md ops n i = true)
    (hQ : ∀ c a w, Q (.panic c) (a.put oi.dst v) w → Q (.panic c) a w) (hy : YieldsIf P ops S oi v a) (hS : S w)
    (h : wpAnyR P md ops Q S n fuel (listed.setIfInBounds i true) (a.put oi.dst v) w) : wpAnyR P md ops Q S n (fuel + 1) listed a w :=
  wpAnyR_first hi (Region.noSelect_spec hs) hQ (lateB_spec hl) fuel listed a w (Region.free_spec hi hf) (by simpa using hr) hy hS h
/-- the only one that may come up -/
theorem wpAnyR_one {i : Nat} {oi : Oper} {fuel : Nat} {listed : Array Bool} {a : Act} {w : World} (hi : ops[i]? = some oi) (hr : Region.ready md ops listed = [i])
    (h : ∀ K : Act → World → Prop, Shut (∀ a' w', S w' → wpAnyR P md ops Q S n fuel (listed.setIfInBounds i true) a' w' → K a' w') → if Region.wanted oi (yielded ops a.tmps) = true then Oper.wp P oi a w K Q else K (a.put oi.dst undef) w) :
    wpAnyR P md ops Q S n (fuel + 1) listed a w := by
  refine ⟨fun h1 => (by rw [hr] at h1; cases h1), fun j hj => ?_⟩
  rw [hr] at hj
  have hji : j = i := by simpa using hj
  subst hji
  exact wpOp_step hi fun K' hK => h K' (fun a' w' hS hW => hK a' w' ⟨Or.inr hS, hW⟩)
/-- what is left goes in one order -/
theorem wpAnyR_seq : ∀ (l : List Oper) (k : Nat) (listed : Array Bool) (a : Act) (w : World), n ≤ k → (∀ j, l[j]? = ops[k + j]?) →
    Region.seqB md ops l.length k listed = true → wpList P ops Q l a w → wpAnyR P md ops Q S n l.length listed a w
  | [], _, _, _, _, _, _, hB, h => ⟨by simpa [Region.seqB] using hB, h⟩
  | o :: l, k, listed, a, w, hn, hl, hB, h => by
    have h0 : ops[k]? = some o := by simpa using (hl 0).symm
    simp only [List.length_cons, Region.seqB, Bool.and_eq_true, decide_eq_true_eq] at hB
    refine ⟨fun h1 => (by rw [hB.1] at h1; cases h1), fun i hi => ?_⟩
    rw [hB.1] at hi
    have hik : i = k := by simpa using hi
    subst hik
    have hw : wpOp P ops Q i (wpList P ops Q l) a w := by unfold wpOp; simp only [h0]; exact h
    exact wpOp_mono (fun a' w' h' => ⟨Or.inl hn, wpAnyR_seq l (i + 1) _ a' w' (by omega) (fun j => by have := hl (j + 1); simpa [Nat.add_assoc, Nat.add_comm 1 j] using this) hB.2 h'⟩) hw
theorem wp_region_R {id : Nat} {a : Act} {w : World} (S : World → Prop) (n : Nat) (hm : P.follows .mixedOrders = true) (h : wpAnyR P .any ops Q S n ops.size (Array.replicate ops.size false) a w.drew) : (Code.region id ops true).wp P Q a w :=
  wp_region_any hm (wpAny_of_R _ _ _ _ h)
/-! the three parts of such a region -/
/-- reads, each of which yields in every world that meets S -/
def wpLead (P : Program) (ops : Array Oper) (S : World → Prop) (L : Act → Prop) : List Oper → Act → Prop
  | [], a => L a
  | o :: l, a => ∃ v, YieldsIf P ops S o v a ∧ wpLead P ops S L l (a.put o.dst v)
/-- operations behind each of which S holds -/
def wpMid (P : Program) (ops : Array Oper) (Q : Exit → Act → World → Prop) (S : World → Prop) (L : Act → World → Prop) : List Oper → Act → World → Prop
  | [], a, w => L a w
  | o :: l, a, w => ∀ K : Act → World → Prop, Shut (∀ a' w', S w' → wpMid P ops Q S L l a' w' → K a' w') → if Region.wanted o (yielded ops a.tmps) = true then Oper.wp P o a w K Q else K (a.put o.dst undef) w
def setAll : Nat → Nat → Array Bool → Array Bool
  | 0, _, listed => listed
  | f + 1, k, listed => setAll f (k + 1) (listed.setIfInBounds k true)
def leadB (md : Region.Mode) (ops : Array Oper) (n : Nat) : Nat → Nat → Array Bool → Bool
  | 0, _, _ => true
  | f + 1, k, listed => (Region.ready md ops listed).contains k && Region.free md ops listed k && lateB md ops n k && leadB md ops n f (k + 1) (listed.setIfInBounds k true)
def midB (md : Region.Mode) (ops : Array Oper) : Nat → Nat → Array Bool → Bool
  | 0, _, _ => true
  | f + 1, k, listed => decide (Region.ready md ops listed = [k]) && midB md ops f (k + 1) (listed.setIfInBounds k true)
theorem wpAnyR_lead (hs : Region.noSelect ops = true) (hQ : ∀ c a d v w, Q (.panic c) (Act.put a d v) w → Q (.panic c) a w) {w : World} (hS : S w) : ∀ (l : List Oper) (k g : Nat) (listed : Array Bool) (a : Act), (∀ j, j < l.length → l[j]? = ops[k + j]?) →
    leadB md ops n l.length k listed = true → wpLead P ops S (fun a' => wpAnyR P md ops Q S n g (setAll l.length k listed) a' w) l a → wpAnyR P md ops Q S n (l.length + g) listed a w
  | [], k, g, listed, a, _, _, h => by simpa [wpLead, setAll] using h
  | o :: l, k, g, listed, a, hl, hB, h => by
    have h0 : ops[k]? = some o := by simpa using (hl 0 (by simp)).symm
    simp only [List.length_cons, leadB, Bool.and_eq_true] at hB
    obtain ⟨⟨⟨b1, b2⟩, b3⟩, b4⟩ := hB
    obtain ⟨v, hy, h⟩ := h
    rw [List.length_cons, show l.length + 1 + g = (l.length + g) + 1 from by omega]
    refine wpAnyR_take h0 hs b2 b1 b3 (fun c a w => hQ c a _ _ w) hy hS ?_
    exact wpAnyR_lead hs hQ hS l (k + 1) g _ _ (fun j hj => by have := hl (j + 1) (by simp; omega); simpa [Nat.add_assoc, Nat.add_comm 1 j] using this) b4 h
theorem wpAnyR_mid : ∀ (l : List Oper) (k g : Nat) (listed : Array Bool) (a : Act) (w : World), (∀ j, j < l.length → l[j]? = ops[k + j]?) →
    midB md ops l.length k listed = true → wpMid P ops Q S (fun a' w' => wpAnyR P md ops Q S n g (setAll l.length k listed) a' w') l a w → wpAnyR P md ops Q S n (l.length + g) listed a w
  | [], k, g, listed, a, w, _, _, h => by simpa [wpMid, setAll] using h
  | o :: l, k, g, listed, a, w, hl, hB, h => by
    have h0 : ops[k]? = some o := by simpa using (hl 0 (by simp)).symm
    simp only [List.length_cons, midB, Bool.and_eq_true, decide_eq_true_eq] at hB
    rw [List.length_cons, show l.length + 1 + g = (l.length + g) + 1 from by omega]
    refine wpAnyR_one h0 hB.1 fun K hK => h K fun a' w' hS' hW => hK.out a' w' hS' ?_
    exact wpAnyR_mid l (k + 1) g _ _ _ (fun j hj => by have := hl (j + 1) (by simp; omega); simpa [Nat.add_assoc, Nat.add_comm 1 j] using this) hB.2 hW
def partsB (ops : Array Oper) (m n : Nat) : Bool :=
  Region.noSelect ops && decide (m ≤ n) && decide (n ≤ ops.size) && leadB .any ops n m 0 (Array.replicate ops.size false) && midB .any ops (n - m) m (setAll m 0 (Array.replicate ops.size false)) &&
    Region.seqB .any ops (ops.size - n) n (setAll (n - m) m (setAll m 0 (Array.replicate ops.size false)))
/-- m reads; then up to number n what makes memory; then what waits for all of these -/
theorem wp_region_parts {l : List Oper} {id : Nat} {a : Act} {w : World} (S : World → Prop) (m n : Nat) (hm : P.follows .mixedOrders = true) (hB : partsB l.toArray m n = true) (hQ : ∀ c a d v w, Q (.panic c) (Act.put a d v) w → Q (.panic c) a w) (hS : S w.drew)
    (h : wpLead P l.toArray S (fun a' => wpMid P l.toArray Q S (fun a2 w2 => wpList P l.toArray Q (l.drop n) a2 w2) ((l.take n).drop m) a' w.drew) (l.take m) a) : (Code.region id l.toArray true).wp P Q a w := by
  simp only [partsB, Bool.and_eq_true, decide_eq_true_eq] at hB
  obtain ⟨⟨⟨⟨⟨b0, b1⟩, b2⟩, b3⟩, b4⟩, b5⟩ := hB
  simp only [List.size_toArray] at b2 b3 b4 b5
  have e1 : (l.take m).length = m := by rw [List.length_take]; omega
  have e2 : ((l.take n).drop m).length = n - m := by rw [List.length_drop, List.length_take]; omega
  have e3 : (l.drop n).length = l.length - n := List.length_drop
  refine wp_region_R S n hm ?_
  rw [List.size_toArray, show l.length = (l.take m).length + (((l.take n).drop m).length + (l.drop n).length) from by rw [e1, e2, e3]; omega]
  refine wpAnyR_lead b0 hQ hS (l.take m) 0 _ _ a (fun j hj => by rw [e1] at hj; rw [List.getElem?_take, if_pos hj, List.getElem?_toArray, Nat.zero_add]) (by rw [e1, e2, e3, show m + (n - m + (l.length - n)) = l.length from by omega]; exact b3) ?_
  revert h
  have step : ∀ (L L' : Act → Prop), (∀ a, L a → L' a) → ∀ (q : List Oper) (a : Act), wpLead P l.toArray S L q a → wpLead P l.toArray S L' q a := by
    intro L L' hL q
    induction q with
    | nil => exact fun a h => hL a h
    | cons o q ih => exact fun a ⟨v, hy, h⟩ => ⟨v, hy, ih _ h⟩
  refine step _ _ (fun a' h => ?_) _ _
  refine wpAnyR_mid ((l.take n).drop m) m _ _ a' _ (fun j hj => by rw [e2] at hj; rw [List.getElem?_drop, List.getElem?_take, if_pos (by omega), List.getElem?_toArray]) (by rw [e1, e2, e3, show m + (n - m + (l.length - n)) = l.length from by omega]; exact b4) ?_
  revert h
  have step2 : ∀ (L L' : Act → World → Prop), (∀ a w, L a w → L' a w) → ∀ (q : List Oper) (a : Act) (w : World), wpMid P l.toArray Q S L q a w → wpMid P l.toArray Q S L' q a w := by
    intro L L' hL q
    induction q with
    | nil => exact fun a w h => hL a w h
    | cons o q ih => exact fun a w h K hK => h K fun a' w' hS' hW => hK.out a' w' hS' (ih _ _ hW)
  refine step2 _ _ (fun a2 w2 h => ?_) _ _ _
  refine wpAnyR_seq (l.drop n) n _ a2 w2 (Nat.le_refl _) (fun j => by rw [List.getElem?_drop, List.getElem?_toArray]) (by rw [e1, e2, e3, show m + (n - m + (l.length - n)) = l.length from by omega]; exact b5) h
theorem wpLead_step {L : Act → Prop} {o : Oper} {l : List Oper} {a : Act} {v : Value} (hw : Region.wanted o (yielded ops a.tmps) = true) (hy : ∀ w, S w → (execOp a.eval o).run P w = .ok (.value v) w) (h : wpLead P ops S L l (a.put o.dst v)) : wpLead P ops S L (o :: l) a := ⟨v, Or.inl ⟨hw, hy⟩, h⟩
theorem wpMid_nil {L : Act → World → Prop} {a : Act} {w : World} (h : L a w) : wpMid P ops Q S L [] a w := h
end

end Go.Proofs.YtkicanegjkemoaaDoor


