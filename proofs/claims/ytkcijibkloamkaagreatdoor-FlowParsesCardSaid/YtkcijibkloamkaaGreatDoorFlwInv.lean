/- Tasks whose last cells are rows of the call's own. -/
import Derived.Test.YtkcijibkloamkaaGreatDoorFlwSet
import Derived.Test.YtkcijibkloamkaaGreatDoorFlwRead
namespace Go.Proofs.YtkcijibkloamkaaGreatDoor
open Go.RowKit
open Dag (Sl Own1 OwnI Ints ints num)
set_option linter.unusedVariables false
set_option maxRecDepth 100000

def tskV (p : TaskP × Value) : List Value := [.string (sb p.1.name), .int .i64 p.1.nodes, .int .i64 p.1.wall, .int .i64 p.1.retry, .bool p.1.done, p.2]
theorem tskV_len (p : TaskP × Value) : (tskV p).length = 6 := rfl
structure T6 (w : World) (b0 b1 : Nat) (A : Option Addr) (c : Nat) (ts : List TaskP) (vs : List Value) (rows : List (List Value)) : Prop where
  out : OwnN w b0 48 6 A ts.length c (flat tskV (ts.zip vs))
  len : vs.length = ts.length
  rlen : rows.length = ts.length
  own : ∀ (k : Nat) (us : List Value) (u : Value), rows[k]? = some us → vs[k]? = some u → Own1 w b1 3 u us
  apart : ∀ (j k : Nat) (x y : Value) (b : Nat), j ≠ k → vs[j]? = some x → vs[k]? = some y → x.ownBlock = some b → y.ownBlock ≠ some b
theorem zip_get {ts : List TaskP} {vs : List Value} {k : Nat} {t : TaskP} {u : Value} (h1 : ts[k]? = some t) (h2 : vs[k]? = some u) : (ts.zip vs)[k]? = some (t, u) := by
  rw [List.getElem?_zip_eq_some]; exact ⟨h1, h2⟩
theorem zip_set : ∀ (ts : List TaskP) (vs : List Value) (k : Nat) (t : TaskP) (u : Value), ts[k]? = some t → (ts.zip vs).set k (t, u) = ts.zip (vs.set k u)
  | [], vs, k, t, u, h => by simp at h
  | a :: ts, [], k, t, u, h => by simp
  | a :: ts, v :: vs, 0, t, u, h => by simp at h; subst h; simp
  | a :: ts, v :: vs, k + 1, t, u, h => by
    rw [List.getElem?_cons_succ] at h
    simp [zip_set ts vs k t u h]
theorem zip_nil : ∀ ts : List TaskP, flat tskV (ts.zip (List.replicate ts.length (Value.slice none 0 0))) = flat taskC ts
  | [] => rfl
  | t :: ts => by
    rw [List.length_cons, List.replicate_succ, List.zip_cons_cons, flat, flat, zip_nil ts]
    rfl
theorem T6.start {w : World} {b0 b1 : Nat} {A : Option Addr} {c : Nat} {ts : List TaskP} (h : OwnN w b0 48 6 A ts.length c (flat taskC ts)) : T6 w b0 b1 A c ts (List.replicate ts.length (.slice none 0 0)) (List.replicate ts.length []) := by
  refine ⟨by rw [zip_nil]; exact h, by simp, by simp, fun k us u hk hu => ?_, fun j k x y b _ hx _ hbx => ?_⟩
  · rw [List.getElem?_replicate] at hk hu
    split at hk
    · rename_i hlt
      rw [if_pos hlt] at hu
      injection hk with hk; injection hu with hu; subst hk hu
      exact Own1.nil _ _ _
    · cases hk
  · rw [List.getElem?_replicate] at hx
    split at hx
    · injection hx with hx; subst hx; cases hbx
    · cases hx
section
variable {w : World} {b0 b1 : Nat} {A : Option Addr} {c : Nat} {ts : List TaskP} {vs : List Value} {rows : List (List Value)}
theorem T6.below {w' : World} (h : T6 w b0 b1 A c ts vs rows) (hb : Below w.heap.size w w') : T6 w' b0 b1 A c ts vs rows :=
  ⟨h.out.keep fun b cs hh => hb.block b (Dag.blk_lt hh), h.len, h.rlen, fun k us u h1 h2 => (h.own k us u h1 h2).below hb, h.apart⟩
theorem T6.row (h : T6 w b0 b1 A c ts vs rows) {k : Nat} {us : List Value} (hk : rows[k]? = some us) :
    ∃ g A' c' cs, A = some ⟨g, 0, none⟩ ∧ b0 ≤ g ∧ g < w.heap.size ∧ w.heap[g]? = some (Obj.cells cs 48 (0, 0)) ∧ vs[k]? = some (.slice A' us.length c') ∧ w.cell? ⟨g, k * 6 + 5, none⟩ = some (.slice A' us.length c') ∧ w.frozen? ⟨g, k * 6 + 5, none⟩ = false ∧ Own1 w b1 3 (.slice A' us.length c') us := by
  have hkl : k < ts.length := by rw [← h.rlen]; exact (List.getElem?_eq_some_iff.1 hk).1
  obtain ⟨u, hu⟩ : ∃ u, vs[k]? = some u := ⟨_, List.getElem?_eq_getElem (by rw [h.len]; exact hkl)⟩
  have ho := h.own k us u hk hu
  obtain ⟨A', c', e1, _⟩ := ho.slice
  subst e1
  obtain ⟨t, ht⟩ : ∃ t, ts[k]? = some t := ⟨_, List.getElem?_eq_getElem hkl⟩
  obtain ⟨g, eg, hb, hlt, hc, hf, ⟨cs, hh⟩, _⟩ := h.out.at_ (i := k * 6 + 5) (u := .slice A' us.length c') (by rw [flat_get tskV_len _ _ _ _ (zip_get ht hu) (by decide)]; rfl)
  exact ⟨g, A', c', cs, eg, hb, hlt, hh, hu, hc, hf, ho⟩
/-- w' is w, but for blocks from b1 on, and for block g -/
structure Fr (w w' : World) (b1 g : Nat) : Prop where
  os : w'.os = w.os
  tape : w'.tape = w.tape
  output : w'.output = w.output
  size : w.heap.size ≤ w'.heap.size
  block : ∀ b, b < b1 → b ≠ g → w'.heap[b]? = w.heap[b]?
theorem Fr.refl (w : World) (b1 g : Nat) : Fr w w b1 g := ⟨rfl, rfl, rfl, Nat.le_refl _, fun _ _ _ => rfl⟩
theorem Fr.trans {a b c : World} {b1 g : Nat} (h : Fr a b b1 g) (k : Fr b c b1 g) : Fr a c b1 g :=
  ⟨k.os.trans h.os, k.tape.trans h.tape, k.output.trans h.output, Nat.le_trans h.size k.size, fun i hi hg => (k.block i hi hg).trans (h.block i hi hg)⟩
theorem Fr.of_below {a b : World} {b1 g : Nat} (h : Below b1 a b) : Fr a b b1 g := ⟨h.os, h.tape, h.output, h.size, fun i hi _ => h.block i hi⟩
theorem Fr.cell {a b : World} {b1 g : Nat} (h : Fr a b b1 g) {p : Addr} {v : Value} (hp : p.block < b1) (hg : p.block ≠ g) (hc : a.cell? p = some v) : b.cell? p = some v := (cell_keep (h.block _ hp hg)).trans hc
/-- one row is another one, behind an append -/
theorem T6.appended (h : T6 w b0 b1 A c ts vs rows) {k : Nat} {us us' : List Value} {u u' : Value} (hk : rows[k]? = some us) (hu : vs[k]? = some u) {tmp : Obj} {w1 : World} (hg : (w.alloc tmp).grownBy w1 u.ownBlock) (ho : Own1 w1 b1 3 u' us')
    (hb : u'.ownBlock = u.ownBlock ∨ u'.ownBlock = some (w.alloc tmp).heap.size) (hbase : b1 ≤ w.heap.size) :
    ∃ g, A = some ⟨g, 0, none⟩ ∧ T6 (w1.setCell ⟨g, k * 6 + 5, none⟩ u') b0 b1 A c ts (vs.set k u') (rows.set k us') ∧ w1.cell? ⟨g, k * 6 + 5, none⟩ = some u ∧ w1.frozen? ⟨g, k * 6 + 5, none⟩ = false ∧ Fr w (w1.setCell ⟨g, k * 6 + 5, none⟩ u') b1 g := by
  have hkl : k < ts.length := by rw [← h.rlen]; exact (List.getElem?_eq_some_iff.1 hk).1
  have hkv : k < vs.length := by rw [h.len]; exact hkl
  obtain ⟨t, ht⟩ : ∃ t, ts[k]? = some t := ⟨_, List.getElem?_eq_getElem hkl⟩
  have hou := h.own k us u hk hu
  obtain ⟨A', c', eu, _⟩ := hou.slice
  have hK := pushed_kept (w3 := w) (W := w.alloc tmp) (w4 := w1) (A := A') (n := us.length) (c := c') (base := b1) (sz := 1) (e := 3) (us := us) ⟨tmp, rfl⟩ (by have := hou; rw [eu] at this; exact this) (by rw [← eu]; exact hg) [48] (by decide)
  have hout1 := h.out.keep (hK.1 _ (by simp))
  obtain ⟨g, eg, hbg, hlg, hc, hf, ⟨cs, hth⟩, hset⟩ := hout1.at_ (i := k * 6 + 5) (u := u) (by rw [flat_get tskV_len _ _ _ _ (zip_get ht hu) (by decide)]; rfl)
  have hsetu := hset u'
  rw [flat_set tskV_len _ _ _ _ (t, u') _ (zip_get ht hu) (by decide) rfl, zip_set ts vs k t u' ht] at hsetu
  have ne_of : ∀ {v : Value} {xs : List Value}, Own1 w1 b1 3 v xs → ∀ b, v.ownBlock = some b → b ≠ g := by
    intro v xs hv b hb e
    subst e
    obtain ⟨cs', hcs'⟩ := hv.typed hb
    exact ty_ne hcs' hth (by decide) rfl
  have ho1 : ∀ (j : Nat) (xs : List Value) (x : Value), j ≠ k → rows[j]? = some xs → vs[j]? = some x → Own1 w1 b1 3 x xs := by
    intro j xs x hj hjs hjx
    have hj1 := h.own j xs x hjs hjx
    refine hj1.keep fun b e => ?_
    have hbl := (hj1.lt e).2
    rw [hg.block b (by simp; omega) (fun e2 => h.apart j k x u b hj hjx hu e e2.symm)]
    exact Below.heap_alloc w tmp b hbl
  refine ⟨g, eg, ⟨hsetu, by simp [h.len], by simp [h.rlen], fun j xs x hjs hjx => ?_, fun i j x y b hij hx hy hbx => ?_⟩, hc, hf, ?_⟩
  · by_cases e : k = j
    · subst e
      rw [List.getElem?_set, if_pos rfl, if_pos (by rw [h.rlen]; exact hkl)] at hjs
      rw [List.getElem?_set, if_pos rfl, if_pos hkv] at hjx
      injection hjs with hjs; injection hjx with hjx; subst hjs hjx
      exact ho.keep fun b e => Dag.blk_other (ne_of ho b e)
    · rw [List.getElem?_set, if_neg e] at hjs hjx
      have h1 := ho1 j xs x (fun e2 => e e2.symm) hjs hjx
      exact h1.keep fun b e => Dag.blk_other (ne_of h1 b e)
  · have key : ∀ {z : Value} {j : Nat}, k ≠ j → vs[j]? = some z → ∀ b, u'.ownBlock = some b → z.ownBlock ≠ some b := by
      intro z j hkj hz b hab
      rcases hb with hb | hb
      · rw [hb] at hab; exact h.apart k j u z b hkj hu hz hab
      · intro e2
        rw [hb] at hab
        injection hab with hab
        have hjl : j < rows.length := by rw [h.rlen, ← h.len]; exact (List.getElem?_eq_some_iff.1 hz).1
        have := ((h.own j _ z (List.getElem?_eq_getElem hjl) hz).lt e2).2
        simp at hab; omega
    rw [List.getElem?_set] at hx hy
    by_cases ei : k = i
    · subst ei
      rw [if_pos rfl, if_pos hkv] at hx
      rw [if_neg hij] at hy
      injection hx with hx; subst hx
      exact key hij hy b hbx
    · rw [if_neg ei] at hx
      by_cases ej : k = j
      · subst ej
        rw [if_pos rfl, if_pos hkv] at hy
        injection hy with hy; subst hy
        exact fun e2 => key ei hx b e2 hbx
      · rw [if_neg ej] at hy
        exact h.apart i j x y b hij hx hy hbx
  · refine ⟨hg.os, hg.tape, hg.output, ?_, fun b hbb hne => ?_⟩
    · have h1 := hg.size
      simp at h1
      simp [World.setCell]; omega
    · rw [Dag.blk_other hne, hg.block b (by simp; omega) (fun e => by
        have := (hou.lt e.symm).1; omega)]
      exact Below.heap_alloc w tmp b (by omega)
end

theorem full_get (links : List (List Nat × List Nat)) (n : Nat) : ∀ (ts : List TaskP) (w k : Nat), (fullL links n w ts)[k]? = (ts[k]?).map fun t => t.full links n (w + k)
  | [], w, k => by simp [fullL]
  | t :: ts, w, 0 => by simp [fullL]
  | t :: ts, w, k + 1 => by
    rw [fullL, List.getElem?_cons_succ, List.getElem?_cons_succ, full_get links n ts (w + 1) k, show w + 1 + k = w + (k + 1) from by omega]
theorem full_len (links : List (List Nat × List Nat)) (n : Nat) : ∀ (ts : List TaskP) (w : Nat), (fullL links n w ts).length = ts.length
  | [], w => rfl
  | t :: ts, w => by rw [fullL, List.length_cons, List.length_cons, full_len links n ts (w + 1)]
/-- the tasks, with those that they wait for -/
theorem T6.tasks {w : World} {b0 b1 : Nat} {A : Option Addr} {c : Nat} {ts : List TaskP} {vs : List Value} {links : List (List Nat × List Nat)} (h : T6 w b0 b1 A c ts vs (Dag.rowsV ts.length (aft links ts.length))) (hn : ∀ t ∈ ts, t.name.length ≤ maxLen) : Tasks w A c (fullL links ts.length 0 ts) := by
  obtain ⟨h1, h2, h3⟩ := OwnN.cap h.out
  refine ⟨fun k t hk => ?_, by rw [full_len]; exact h1, h2, h3, fun t ht => ?_⟩
  · rw [full_get, Nat.zero_add] at hk
    cases htk : ts[k]? with
    | none => rw [htk] at hk; cases hk
    | some t0 =>
      rw [htk] at hk
      injection hk with hk
      subst hk
      have hkl : k < ts.length := (List.getElem?_eq_some_iff.1 htk).1
      have hr := Dag.rowsV_get (n := ts.length) (aft links ts.length) hkl
      obtain ⟨u, hu⟩ : ∃ u, vs[k]? = some u := ⟨_, List.getElem?_eq_getElem (by rw [h.len]; exact hkl)⟩
      have ho := h.own k _ u hr hu
      obtain ⟨A', c', eu, hs, _⟩ := ho.slice
      rw [Dag.ints_len, Dag.num_len] at eu
      subst eu
      have cell : ∀ (j : Nat) (x : Value), (tskV (t0, .slice A' (aft links ts.length k).length c'))[j]? = some x → j < 6 → ∃ g, A = some ⟨g, 0, none⟩ ∧ w.cell? ⟨g, k * 6 + j, none⟩ = some x := fun j x hx hj => by
        obtain ⟨g, eg, _, _, hc, _⟩ := h.out.at_ (i := k * 6 + j) (u := x) (by rw [flat_get tskV_len _ _ _ _ (zip_get htk hu) hj]; exact hx)
        exact ⟨g, eg, hc⟩
      obtain ⟨g, eg, c0⟩ := cell 0 _ rfl (by decide)
      subst eg
      have get : ∀ (j : Nat) (x : Value), (tskV (t0, .slice A' (aft links ts.length k).length c'))[j]? = some x → j < 6 → w.cell? ⟨g, k * 6 + j, none⟩ = some x := fun j x hx hj => by
        obtain ⟨g2, e2, hc⟩ := cell j x hx hj
        injection e2 with e2; injection e2 with e2; subst e2; exact hc
      refine ⟨g, 0, A', c', rfl, ?_, ?_, ?_, ?_, ?_, ?_, ?_⟩
      · rw [Nat.zero_add]; exact c0
      · rw [Nat.zero_add]; exact get 1 _ rfl (by decide)
      · rw [Nat.zero_add]; exact get 2 _ rfl (by decide)
      · rw [Nat.zero_add]; exact get 3 _ rfl (by decide)
      · rw [Nat.zero_add]; exact get 4 _ rfl (by decide)
      · rw [Nat.zero_add]
        have := get 5 _ rfl (by decide)
        rw [show (t0.full links ts.length k).after.length = (aft links ts.length k).length from Dag.num_len _]
        exact this
      · exact hs
  · obtain ⟨k, hk, rfl⟩ := List.getElem_of_mem ht
    have h4 := full_get links ts.length ts 0 k
    rw [List.getElem?_eq_getElem hk] at h4
    cases htk : ts[k]? with
    | none => rw [htk] at h4; cases h4
    | some t0 =>
      rw [htk] at h4
      injection h4 with h4
      rw [h4]
      exact hn t0 (List.mem_of_getElem? htk)

theorem T6.keepT {w w' : World} {b0 b1 : Nat} {A : Option Addr} {c : Nat} {ts : List TaskP} {vs : List Value} {rows : List (List Value)} (h : T6 w b0 b1 A c ts vs rows) (hk : Kept [48, 3] w w') : T6 w' b0 b1 A c ts vs rows :=
  ⟨h.out.keep (hk _ (by simp)), h.len, h.rlen, fun k us u h1 h2 => (h.own k us u h1 h2).keep fun b e => by
    obtain ⟨cs, hcs⟩ := Own1.typed (h.own k us u h1 h2) e
    exact hk _ (by simp) b cs hcs, h.apart⟩

end Go.Proofs.YtkcijibkloamkaaGreatDoor

/- join: who waits for whom, put into the tasks. -/
namespace Go.Proofs.YtkcijibkloamkaaGreatDoor
open Go.RowKit
open Dag (Sl Own1 OwnI Ints ints num info_int info_is Tbl rowsV rowsV_get rowsV_set)
set_option linter.unusedVariables false
set_option maxRecDepth 100000

/-- all links are of tasks that are there -/
def LinksIn (n : Nat) (links : List (List Nat × List Nat)) : Prop := ∀ k ∈ links, (∀ x ∈ k.1, x < n) ∧ (∀ x ∈ k.2, x < n)
/-- of links ahead of the i-th those in which v is a parent -/
def inA (links : List (List Nat × List Nat)) (i v x : Nat) : Prop := x < i ∧ ∃ p c, links[x]? = some (p, c) ∧ v ∈ p
structure Lns (links : List (List Nat × List Nat)) (i : Nat) (xs : List Int) (f : Nat → List Nat) : Prop where
  mem : ∀ v x, x ∈ f v ↔ inA links i v x ∨ (x = i ∧ (v : Int) ∈ xs)
  len : ∀ v, (f v).length ≤ i + if (v : Int) ∈ xs then 1 else 0
theorem Lns.start (links : List (List Nat × List Nat)) : Lns links 0 [] (fun _ => []) := ⟨fun v x => by simp [inA], fun v => by simp⟩
theorem Lns.next {links : List (List Nat × List Nat)} {i : Nat} {xs : List Int} {f : Nat → List Nat} {p c : List Nat} (h : Lns links i xs f) (hi : links[i]? = some (p, c)) (hp : SameM xs p) : Lns links (i + 1) [] f := by
  refine ⟨fun v x => ?_, fun v => ?_⟩
  · rw [h.mem]
    unfold inA
    constructor
    · rintro (⟨hx, r⟩ | ⟨rfl, hx⟩)
      · exact Or.inl ⟨by omega, r⟩
      · refine Or.inl ⟨by omega, p, c, hi, ?_⟩
        have := (hp _).1 hx
        obtain ⟨y, hy, e⟩ := List.mem_map.1 this
        have : y = v := by omega
        subst this; exact hy
    · rintro (⟨hx, q, d, hq, hv⟩ | ⟨_, hx⟩)
      · by_cases e : x < i
        · exact Or.inl ⟨e, q, d, hq, hv⟩
        · obtain rfl : x = i := by omega
          rw [hi] at hq
          injection hq with hq; injection hq with e1 e2; subst e1 e2
          exact Or.inr ⟨rfl, (hp _).2 (List.mem_map.2 ⟨v, hv, rfl⟩)⟩
      · cases hx
  · have := h.len v
    simp only [List.not_mem_nil, if_false]
    split at this <;> omega
theorem take_snoc {xs : List Int} {j : Nat} {x : Int} (h : xs[j]? = some x) : xs.take (j + 1) = xs.take j ++ [x] := by rw [List.take_add_one, h]; rfl
theorem nodup_out {xs : List Int} {j : Nat} {x : Int} (hn : xs.Nodup) (h : xs[j]? = some x) : x ∉ xs.take j := by
  intro hx
  obtain ⟨i, hi, e⟩ := List.getElem_of_mem hx
  rw [List.length_take] at hi
  rw [List.getElem_take] at e
  obtain ⟨hj, e2⟩ := List.getElem?_eq_some_iff.1 h
  have := (List.getElem_inj hn (h₀ := by omega) (h₁ := hj)).1 (e.trans e2.symm)
  omega
def putF (f : Nat → List Nat) (u x v : Nat) : List Nat := if v = u then f v ++ [x] else f v
theorem Lns.put {links : List (List Nat × List Nat)} {i j u : Nat} {xs : List Int} {f : Nat → List Nat} (h : Lns links i (xs.take j) f) (hn : xs.Nodup) (hx : xs[j]? = some (u : Int)) : Lns links i (xs.take (j + 1)) (putF f u i) := by
  have hout := nodup_out hn hx
  rw [take_snoc hx]
  refine ⟨fun v x => ?_, fun v => ?_⟩
  · unfold putF
    by_cases e : v = u
    · subst e
      rw [if_pos rfl, List.mem_append, h.mem]
      simp only [List.mem_append, List.mem_singleton]
      constructor
      · rintro ((h1 | ⟨h1, h2⟩) | h1)
        · exact Or.inl h1
        · exact Or.inr ⟨h1, Or.inl h2⟩
        · exact Or.inr ⟨h1, Or.inr trivial⟩
      · rintro (h1 | ⟨h1, h2⟩)
        · exact Or.inl (Or.inl h1)
        · exact Or.inr h1
    · rw [if_neg e, h.mem]
      have hne : ¬ ((v : Int) = (u : Int)) := by omega
      simp [hne]
  · have hl := h.len v
    unfold putF
    by_cases e : v = u
    · subst e
      rw [if_pos rfl, List.length_append]
      rw [if_neg hout] at hl
      simp; omega
    · rw [if_neg e]
      have hne : ¬ ((v : Int) = (u : Int)) := by omega
      simp only [List.mem_append, List.mem_singleton, hne, or_false]
      exact hl

/-! the second half -/
def ch (links : List (List Nat × List Nat)) (x : Nat) : List Nat := match links[x]? with
  | some q => q.2
  | none => []
structure Hit (links : List (List Nat × List Nat)) (l : List Nat) (jj : Nat) (ys : List Int) (H : Nat → Bool) : Prop where
  iff : ∀ w, H w = true ↔ (∃ x ∈ l.take jj, w ∈ ch links x) ∨ (w : Int) ∈ ys
theorem Hit.start (links : List (List Nat × List Nat)) (l : List Nat) : Hit links l 0 [] (fun _ => false) := ⟨fun w => by simp⟩
theorem Hit.next {links : List (List Nat × List Nat)} {l : List Nat} {jj x : Nat} {ys : List Int} {H : Nat → Bool} (h : Hit links l jj ys H) (hx : l[jj]? = some x) (hs : SameM ys (ch links x)) : Hit links l (jj + 1) [] H := by
  refine ⟨fun w => ?_⟩
  rw [h.iff, List.take_add_one, hx]
  have hw : (w : Int) ∈ ys ↔ w ∈ ch links x := by
    rw [hs]
    constructor
    · intro hm
      obtain ⟨y, hy, e⟩ := List.mem_map.1 hm
      have : y = w := by omega
      subst this; exact hy
    · intro hm; exact List.mem_map.2 ⟨w, hm, rfl⟩
  rw [hw]
  simp only [Option.toList_some, List.mem_append, List.mem_singleton, List.not_mem_nil, or_false]
  constructor
  · rintro (⟨y, hy, hc⟩ | hc)
    · exact ⟨y, Or.inl hy, hc⟩
    · exact ⟨x, Or.inr rfl, hc⟩
  · rintro ⟨y, hy | rfl, hc⟩
    · exact Or.inl ⟨y, hy, hc⟩
    · exact Or.inr hc
def orH (H : Nat → Bool) (u w : Nat) : Bool := H w || w == u
theorem Hit.put {links : List (List Nat × List Nat)} {l : List Nat} {jj q u : Nat} {ys : List Int} {H : Nat → Bool} (h : Hit links l jj (ys.take q) H) (hu : ys[q]? = some (u : Int)) : Hit links l jj (ys.take (q + 1)) (orH H u) := by
  refine ⟨fun w => ?_⟩
  unfold orH
  rw [Bool.or_eq_true, h.iff, take_snoc hu, List.mem_append, List.mem_singleton, or_assoc]
  have : (w == u) = true ↔ (w : Int) = (u : Int) := by rw [beq_iff_eq]; omega
  rw [this]
theorem orH_same {H : Nat → Bool} {u : Nat} (h : H u = true) : orH H u = H := by
  funext w
  unfold orH
  by_cases e : w = u
  · subst e; simp [h]
  · simp [e]
def rowH (links : List (List Nat × List Nat)) (k : Nat) (H : Nat → Bool) (w : Nat) : List Nat := aft links k w ++ if H w = true then [k] else []
theorem rowH_none (links : List (List Nat × List Nat)) (k : Nat) : rowH links k (fun _ => false) = aft links k := by funext w; simp [rowH]
theorem aft_lt {links : List (List Nat × List Nat)} {k w v : Nat} (h : v ∈ aft links k w) : v < k := by
  have := (List.mem_filter.1 h).1; simpa using this
theorem aft_len (links : List (List Nat × List Nat)) (k w : Nat) : (aft links k w).length ≤ k := by
  unfold aft; exact Nat.le_trans (List.length_filter_le _ _) (by simp)
theorem rowH_end {links : List (List Nat × List Nat)} {f : Nat → List Nat} {k : Nat} {H : Nat → Bool} (hf : Lns links links.length [] f) (h : Hit links (f k) (f k).length [] H) : rowH links k H = aft links (k + 1) := by
  funext w
  unfold rowH
  have e : aft links (k + 1) w = aft links k w ++ if (links.any fun q => decide (k ∈ q.1) && decide (w ∈ q.2)) = true then [k] else [] := by
    unfold aft
    rw [List.range_succ, List.filter_append]
    congr 1
    simp only [List.filter_cons, List.filter_nil]
  rw [e]
  have hiff : H w = true ↔ (links.any fun q => decide (k ∈ q.1) && decide (w ∈ q.2)) = true := by
    rw [h.iff, List.take_length]
    simp only [List.not_mem_nil, or_false, List.any_eq_true, Bool.and_eq_true, decide_eq_true_eq]
    constructor
    · rintro ⟨x, hx, hw⟩
      rcases (hf.mem k x).1 hx with ⟨_, p, c, hpc, hk⟩ | ⟨_, hk⟩
      · refine ⟨(p, c), List.mem_of_getElem? hpc, hk, ?_⟩
        unfold ch at hw
        rw [hpc] at hw
        exact hw
      · cases hk
    · rintro ⟨⟨p, c⟩, hm, hk, hw⟩
      obtain ⟨x, hxl, hxe⟩ := List.getElem_of_mem hm
      have hx : links[x]? = some (p, c) := by rw [List.getElem?_eq_getElem hxl, hxe]
      refine ⟨x, (hf.mem k x).2 (Or.inl ⟨hxl, p, c, hx, hk⟩), ?_⟩
      unfold ch
      rw [hx]
      exact hw
  by_cases hH : H w = true
  · rw [if_pos hH, if_pos (hiff.1 hH)]
  · rw [if_neg hH, if_neg (fun e => hH (hiff.2 e))]
theorem IntsT.fr {w w' : World} {A : Option Addr} {c g : Nat} {xs : List Int} (h : IntsT w A c xs) (hF : Fr w w' w.heap.size g) (hg : ∀ (cs : Array Value) (ty : TypeId), ty ≠ 48 → w.heap[g]? ≠ some (Obj.cells cs ty (0, 0))) : IntsT w' A c xs := by
  have hk : ∀ a, A = some a → w'.heap[a.block]? = w.heap[a.block]? := fun a ha => by
    obtain ⟨cs, hcs⟩ := h.typ a ha
    refine hF.block _ (Dag.blk_lt hcs) fun e => ?_
    exact hg cs 3 (by decide) (by rw [← e]; exact hcs)
  refine ⟨⟨fun k u hu => ?_, h.ints.cap, h.ints.top, h.ints.nil⟩, fun a ha => ?_⟩
  · obtain ⟨b, off, e, hc⟩ := h.ints.cells k u hu
    exact ⟨b, off, e, (cell_keep (p := ⟨b, off + k, none⟩) (show w'.heap[b]? = w.heap[b]? from hk _ e)).trans hc⟩
  · obtain ⟨cs, hcs⟩ := h.typ a ha
    exact ⟨cs, (hk a ha).trans hcs⟩

set_option maxHeartbeats 6400000 in
theorem join_any (s : St) (hli : LinksIn s.tasks.length s.links) (w : World) (base D : Nat) (h : Drf w base D s) (hn : s.tasks.length ≤ 70000) (hk : s.links.length ≤ 70000) (hw : base ≤ w.heap.size) :
    Calls Tryz.prog 33 #[.pointer (some ⟨D, 0, none⟩)] w fun e w' => e = .returned (.tuple #[]) ∧ Below base w w' ∧ ∃ TA tc HA hc LA lc M, w'.heap[D]? = some (Obj.cells (draftC s TA tc HA hc LA lc M) 60 (0, 0)) ∧ (∀ w2, Kept [48, 3] w' w2 → Tasks w2 TA tc s.flow.tasks) := by
  obtain ⟨TA, tc, HA, hc, LA, lc, M, hD, hP⟩ := h.ex
  obtain ⟨lv, hO, hLA⟩ := hP.links
  have HD := Lib.hid hD; have HP := Lib.hid hP; have HO := Lib.hid hO; have HLA := Lib.hid hLA
  have HLI := Lib.hid hli
  have hlt := Dag.blk_lt hD
  obtain ⟨k3, f3⟩ := Drf.cells hD 3
  obtain ⟨k15, f15⟩ := Drf.cells hD 15
  simp only [draftC, List.getElem?_toArray, List.getElem?_cons_succ, List.getElem?_cons_zero] at k3 k15
  clear h hD hP hO hLA hli
  have hmk := fun W : World => Dag.run_mk W 93 34 _ 24 Tryz.underlying93 info_is rfl (by decide) s.tasks.length (by omega) _ _ rfl rfl
  go_enter Tryz.func33, Tryz.ntmps33
  go_wp2
  have hbm : Below w.heap.size w (w.alloc (.cells (Array.replicate s.tasks.length (.slice none 0 0)) 34)) := al _ _
  have htm := Tbl.make (w := w) (base := w.heap.size) (t := 34) (e := 3) (Nat.le_refl _) s.tasks.length (by omega) rfl
  have h0 : List.replicate s.tasks.length ([] : List Value) = rowsV s.tasks.length (fun _ => []) := by
    unfold rowsV
    apply List.ext_getElem?
    intro i
    rcases Nat.lt_or_ge i s.tasks.length with hi | hi
    · rw [Dag.range_map_get _ hi, List.getElem?_replicate, if_pos hi]; rfl
    · rw [List.getElem?_eq_none (by simpa using hi), List.getElem?_eq_none (by simpa using hi)]
  rw [h0] at htm
  have HBM := Lib.hid hbm
  have HTM := Lib.hid htm
  clear hbm htm h0 hmk
  generalize w.alloc (.cells (Array.replicate s.tasks.length (.slice none 0 0)) 34) = W0 at HBM HTM ⊢
  generalize eg : w.heap.size = g at HTM ⊢
  have HG := Lib.hid eg
  clear eg
  go_loopw [28] (fun i wr => ∃ (k : Nat) (f : Nat → List Nat) (vs : List Value), k ≤ s.links.length ∧ i = .int .i64 k ∧ Hid (Tbl wr g 34 3 (.slice (some ⟨g, 0, none⟩) s.tasks.length s.tasks.length) vs (rowsV s.tasks.length f)) ∧ Hid (Lns s.links k [] f) ∧ Hid (Below w.heap.size w wr)) (fun i _ => s.links.length - (intOf i).toNat)
  case atStart => exact ⟨0, _, _, Nat.zero_le _, rfl, HTM, Lib.hid (Lns.start _), HBM⟩
  case round =>
    obtain ⟨k, f, vs, hkl, rfl, HT, HF, HB⟩ := hrel
    by_cases hlt2 : k < s.links.length
    · obtain ⟨⟨p, c⟩, hpc⟩ : ∃ x, s.links[k]? = some x := ⟨_, List.getElem?_eq_getElem hlt2⟩
      obtain ⟨A1, c1, xs, A2, c2, ys, hv1, hv2, hI1, hI2, hS1, hS2, hl1, hl2, hn1, hn2⟩ := HLA.out.2 k p c hpc
      obtain ⟨gl, eL, _, _, hcl1, _⟩ := HO.out.at_ hv1
      obtain ⟨gl2, eL2, _, _, hcl2, _⟩ := HO.out.at_ hv2
      subst eL
      injection eL2 with eL2; injection eL2 with eL2; subst eL2
      have d1 := keep_cell HB.out hcl1
      have d2 := keep_cell HB.out hcl2
      have HI1 := Lib.hid hI1.ints
      have HN1 := Lib.hid hn1
      have HPC := Lib.hid hpc
      have HS1 := Lib.hid hS1
      have hin := (HLI.out _ (List.mem_of_getElem? hpc)).1
      have HIN := Lib.hid (show ∀ x ∈ xs, ∃ u : Nat, x = (u : Int) ∧ u < s.tasks.length from fun x hx => by
        obtain ⟨u, hu, e⟩ := List.mem_map.1 ((hS1 x).1 hx)
        exact ⟨u, e.symm, hin u hu⟩)
      have hxl : xs.length ≤ 9223372036854775807 := by omega
      clear hpc hv1 hv2 hI1 hI2 hS1 hS2 hn1 hn2 hcl1 hcl2 hin
      go_wp2
      go_loopw [36] (fun i wq => ∃ (j : Nat) (f : Nat → List Nat) (vs : List Value), j ≤ xs.length ∧ i = .int .i64 j ∧ Hid (Tbl wq g 34 3 (.slice (some ⟨g, 0, none⟩) s.tasks.length s.tasks.length) vs (rowsV s.tasks.length f)) ∧ Hid (Lns s.links k (xs.take j) f) ∧ Hid (Below w.heap.size w wq)) (fun i _ => xs.length - (intOf i).toNat)
      case atStart => exact ⟨0, f, vs, Nat.zero_le _, rfl, Lib.hid (HT.out.below (al _ _)), HF, Lib.hid (blw HB.out (al _ _))⟩
      case round =>
        obtain ⟨j, f2, vs2, hj, rfl, HT2, HF2, HB2⟩ := hrel
        by_cases hjl : j < xs.length
        · obtain ⟨b2, off2, y, rfl, hy, hcy0⟩ := HI1.out.at_ hjl
          have hcy := keep_cell HB2.out hcy0
          obtain ⟨u, rfl, hul⟩ := HIN.out y (List.mem_of_getElem? hy)
          obtain ⟨g', A9, c9, eg, _, hglt, hvu, hcu, hfu, hou⟩ := HT2.out.row (rowsV_get _ hul)
          injection eg with eg
          injection eg with eg
          subst eg
          have HF3 := Lib.hid (HF2.out.put HN1.out hy)
          have hRl := HF2.out.len u
          obtain ⟨R, hR⟩ : ∃ R, f2 u = R := ⟨_, rfl⟩
          rw [hR] at hou hcu hvu hRl
          rw [Dag.ints_len, Dag.num_len] at hcu hvu hou
          have hRl2 : R.length ≤ 80000 := by split at hRl <;> omega
          have HR := Lib.hid hR
          have HVU := Lib.hid hvu
          have HOU := Lib.hid hou
          clear hy hcy0 hvu hou hRl hR
          go_wp2_with (at_builtin; refine Dag.wpList_appg rfl _ _ 34 3 (.int .i64 0) 8 Tryz.underlying34 info_int rfl (by decide) rfl g (.slice A9 R.length c9) (ints (num R)) rfl (by exact HOU.out.below (al _ _)) (some ⟨wr.heap.size, 0, none⟩) 1 1 [.int .i64 (k : Int)] rfl rfl (Sl.one rfl) (by simp [Value.oneCell']) (by rw [Dag.ints_len, Dag.num_len]; simp; omega) (by simp; omega) ?_; intro l A8 c8 w9 el ho9 hg9 hb9 _; obtain ⟨htb, hcg, hfg, hbw⟩ := Tbl.appended HT2.out (by decide) HVU.out hg9 ho9 hb9 (by omega); have HTB := Lib.hid htb; have HBW := Lib.hid hbw; have EL := Lib.hid el; clear htb hbw ho9 hg9 hb9 el)
          go_roundw
          case rel =>
            refine ⟨j + 1, putF f2 u k, vs2.set u (.slice A8 l.length c8), by omega, by go_num, Lib.hid ?_, HF3, Lib.hid (HB2.out.trans (by rw [HG.out]; exact HBW.out))⟩
            have e2 : (rowsV s.tasks.length f2).set u l = rowsV s.tasks.length (putF f2 u k) := by
              have e3 : l = ints (num (putF f2 u k u)) := by
                rw [EL.out]
                unfold putF
                rw [if_pos rfl, HR.out]
                simp [ints, num]
              rw [e3]
              exact rowsV_set hul fun i _ hi => by unfold putF; rw [if_neg hi]
            rw [← e2]
            exact HTB.out
          case measure => simp [intOf]; omega
        · obtain rfl : j = xs.length := by omega
          have HFN : Hid (Lns s.links (k + 1) [] f2) := Lib.hid ((by have := HF2.out; rw [List.take_length] at this; exact this : Lns s.links k xs f2).next HPC.out HS1.out)
          go_wp2
          go_roundw
          case rel => exact ⟨k + 1, f2, vs2, by omega, by go_num, HT2, HFN, HB2⟩
          case measure => simp [intOf]; omega
    · obtain rfl : k = s.links.length := by omega
      have HP3 := Lib.hid (HP.out.keep (Kept.below HB.out) (KeptM.below HB.out))
      have HD3 := Lib.hid ((HB.out.block D hlt).trans HD.out)
      have HO3 := Lib.hid (HO.out.keep (Kept.below (tys := [110]) HB.out _ (by simp)))
      have HLA3 := Lib.hid (HLA.out.keep (Kept.below (tys := [3]) HB.out _ (by simp)))
      obtain ⟨gt, hgt0, hgt1, hgt2⟩ : ∃ gt, base ≤ gt ∧ (∀ a, TA = some a → a.block = gt) ∧ (∀ (cs : Array Value) (ty : TypeId), ty ≠ 48 → wr.heap[gt]? ≠ some (Obj.cells cs ty (0, 0))) := by
        cases TA with
        | none => exact ⟨wr.heap.size, Nat.le_trans hw HB.out.size, (fun a h => by cases h), (fun cs ty _ h => by rw [Array.getElem?_eq_none (Nat.le_refl _)] at h; cases h)⟩
        | some a =>
          obtain ⟨hba, _, cs, hcs⟩ := OwnN.lt HP3.out.tasks rfl
          refine ⟨a.block, hba, fun a' h => by injection h with h; rw [h], fun cs' ty hty h => ?_⟩
          rw [hcs] at h
          injection h with h; injection h with _ h; exact hty h.symm
      have GT0 := Lib.hid hgt0; have GT1 := Lib.hid hgt1; have GT2 := Lib.hid hgt2; clear hgt0 hgt1 hgt2
      have HT0 := Lib.hid (T6.start (b1 := wr.heap.size) HP3.out.tasks)
      have er0 : List.replicate s.tasks.length ([] : List Value) = rowsV s.tasks.length (aft s.links 0) := by
        unfold rowsV
        apply List.ext_getElem?
        intro i
        rcases Nat.lt_or_ge i s.tasks.length with hi | hi
        · rw [Dag.range_map_get _ hi, List.getElem?_replicate, if_pos hi]; rfl
        · rw [List.getElem?_eq_none (by simpa using hi), List.getElem?_eq_none (by simpa using hi)]
      have ER0 := Lib.hid er0; clear er0
      go_wp2
      generalize hW3 : wr = w3 at *
      clear hW3
      go_loopw [54] (fun i wq => ∃ (k : Nat) (vs : List Value), k ≤ s.tasks.length ∧ i = .int .i64 k ∧ Hid (T6 wq base w3.heap.size TA tc s.tasks vs (rowsV s.tasks.length (aft s.links k))) ∧ Hid (Fr w3 wq w3.heap.size gt)) (fun i _ => s.tasks.length - (intOf i).toNat)
      case atStart => exact ⟨0, _, Nat.zero_le _, rfl, Lib.hid (by rw [← ER0.out]; exact HT0.out), Lib.hid (Fr.refl _ _ _)⟩
      case round =>
        obtain ⟨k, vs3, hk3, rfl, HT3, HF3⟩ := hrel
        by_cases hlt3 : k < s.tasks.length
        · obtain ⟨gx, A9, c9, ex, _, hglt, hvu, hcu0, _, hou0⟩ := HT.out.row (rowsV_get f hlt3)
          injection ex with ex
          injection ex with ex
          subst ex
          have hgne : g ≠ gt := by
            intro e
            obtain ⟨csg, hcsg⟩ := Own1.typed HT.out.out (b := g) rfl
            exact GT2.out csg 34 (by decide) (by rw [← e]; exact hcsg)
          have hcu := HF3.out.cell (p := ⟨g, k, none⟩) hglt hgne hcu0
          rw [Dag.ints_len, Dag.num_len] at hcu hou0
          have hIT0 : IntsT w3 A9 c9 (num (f k)) := by
            have h1 := hou0
            have hl9 : (f k).length = (ints (num (f k))).length := by rw [Dag.ints_len, Dag.num_len]
            rw [hl9] at h1
            exact ⟨(Own1.sl h1).2, fun a ha => by subst ha; exact Own1.typed h1 (b := a.block) rfl⟩
          have HIT := Lib.hid hIT0
          have hfl : (f k).length ≤ 80000 := by have := HF.out.len k; simp at this; omega
          have hI9 := (HIT.out.fr HF3.out GT2.out).ints
          have HFK := Lib.hid (show ∀ (j x : Nat), (f k)[j]? = some x → x < s.links.length from fun j x hx => by
            rcases (HF.out.mem k x).1 (List.mem_of_getElem? hx) with ⟨h1, _⟩ | ⟨_, h1⟩
            · exact h1
            · cases h1)
          obtain ⟨fk, hfk⟩ : ∃ fk, f k = fk := ⟨_, rfl⟩
          rw [hfk] at hcu hI9 hfl
          have HFKE := Lib.hid hfk
          have HIT9 := Lib.hid (show IntsT w3 A9 c9 (num fk) from by rw [← hfk]; exact HIT.out)
          clear hvu hcu0 hou0 hIT0 HIT hfk hI9
          go_wp2
          go_loopw [61] (fun i wq => ∃ (jj : Nat) (vs : List Value) (H : Nat → Bool), jj ≤ fk.length ∧ i = .int .i64 jj ∧ Hid (T6 wq base w3.heap.size TA tc s.tasks vs (rowsV s.tasks.length (rowH s.links k H))) ∧ Hid (Fr w3 wq w3.heap.size gt) ∧ Hid (Hit s.links fk jj [] H)) (fun i _ => fk.length - (intOf i).toNat)
          case atStart => exact ⟨0, vs3, _, Nat.zero_le _, rfl, Lib.hid (by rw [rowH_none]; exact HT3.out), HF3, Lib.hid (Hit.start _ _)⟩
          case round =>
            obtain ⟨jj, vs4, H4, hjj, rfl, HT4, HF4, HH4⟩ := hrel
            by_cases hjl : jj < fk.length
            · obtain ⟨x, hx⟩ : ∃ x, fk[jj]? = some x := ⟨_, List.getElem?_eq_getElem hjl⟩
              obtain ⟨b9, off9, y9, rfl, hy9, hc9⟩ := (HIT9.out.fr HF4.out GT2.out).ints.at_ (k := jj) (by rw [Dag.num_len]; exact hjl)
              rw [Dag.num_get, hx] at hy9
              injection hy9 with hy9
              subst hy9
              have hxl := HFK.out jj x (by rw [HFKE.out]; exact hx)
              obtain ⟨⟨p, c⟩, hpc⟩ : ∃ z, s.links[x]? = some z := ⟨_, List.getElem?_eq_getElem hxl⟩
              obtain ⟨A1, c1, xs, A2, c2, ys, hv1, hv2, hI1, hI2, hS1, hS2, hl1, hl2, hn1, hn2⟩ := HLA3.out.2 x p c hpc
              obtain ⟨gl, eL, _, hgll, hcl2, _, ⟨csl, htl⟩, _⟩ := HO3.out.at_ hv2
              subst eL
              have hglne : gl ≠ gt := fun e => GT2.out csl 110 (by decide) (by rw [← e]; exact htl)
              have hDne : D ≠ gt := fun e => GT2.out _ 60 (by decide) (by rw [← e]; exact HD3.out)
              have d2 := HF4.out.cell (p := ⟨gl, x * 2 + 1, none⟩) hgll hglne hcl2
              have k15b := HF4.out.cell (p := ⟨D, 15, none⟩) (Dag.blk_lt HD3.out) hDne (Drf.cells HD3.out 15).1
              simp only [draftC] at k15b
              have hDlt := World.block_lt_of_cell? wr _ k15b
              have HX := Lib.hid hx
              have HI2 := Lib.hid hI2
              have HS2 := Lib.hid (show SameM ys (ch s.links x) from by unfold ch; rw [hpc]; exact hS2)
              have hin := (HLI.out _ (List.mem_of_getElem? hpc)).2
              have HIN := Lib.hid (show ∀ z ∈ ys, ∃ u : Nat, z = (u : Int) ∧ u < s.tasks.length from fun z hz => by
                obtain ⟨u, hu, e⟩ := List.mem_map.1 ((hS2 z).1 hz)
                exact ⟨u, e.symm, hin u hu⟩)
              have hyl : ys.length ≤ 9223372036854775807 := by omega
              clear hx hpc hv1 hv2 hI1 hI2 hS1 hS2 hn1 hn2 hcl2 hin htl
              go_wp2
              go_loopw [74] (fun i wq => ∃ (q : Nat) (vs : List Value) (H : Nat → Bool), q ≤ ys.length ∧ i = .int .i64 q ∧ Hid (T6 wq base w3.heap.size TA tc s.tasks vs (rowsV s.tasks.length (rowH s.links k H))) ∧ Hid (Fr w3 wq w3.heap.size gt) ∧ Hid (Hit s.links fk jj (ys.take q) H)) (fun i _ => ys.length - (intOf i).toNat)
              case atStart => exact ⟨0, vs4, H4, Nat.zero_le _, rfl, HT4, HF4, HH4⟩
              case round =>
                obtain ⟨q, vs5, H5, hq, rfl, HT5, HF5, HH5⟩ := hrel
                by_cases hql : q < ys.length
                · obtain ⟨b2, off2, z, rfl, hz, hcz⟩ := (HI2.out.fr HF5.out GT2.out).ints.at_ hql
                  obtain ⟨u, rfl, hul⟩ := HIN.out z (List.mem_of_getElem? hz)
                  obtain ⟨gg, A7, c7, cs7, e7, _, hgl7, hth7, hv7, hc7, hf7, ho7⟩ := HT5.out.row (rowsV_get _ hul)
                  have egt := GT1.out _ e7
                  simp only at egt
                  subst egt
                  subst e7
                  have HHN := Lib.hid (HH5.out.put hz)
                  obtain ⟨R, hR⟩ : ∃ R, rowH s.links k H5 u = R := ⟨_, rfl⟩
                  rw [hR] at hv7 hc7 ho7
                  rw [Dag.ints_len, Dag.num_len] at hv7 hc7 ho7
                  have HO7 := Lib.hid ho7
                  have hRl : (aft s.links k u).length ≤ 80000 := Nat.le_trans (aft_len _ _ _) (by omega)
                  clear hz hth7 ho7
                  cases hHu : H5 u with
                  | true =>
                    have e1 : R = aft s.links k u ++ [k] := by rw [← hR]; unfold rowH; rw [if_pos hHu]
                    obtain ⟨m, hm⟩ : ∃ m, (aft s.links k u).length = m := ⟨_, rfl⟩
                    have e2 : R.length = m + 1 := by rw [e1]; simp [hm]
                    have e3 : (ints (num R))[m]? = some (.int .i64 (k : Int)) := by
                      refine Dag.ints_get ?_
                      rw [Dag.num_get, e1, List.getElem?_append_right (by omega), hm]
                      simp
                    obtain ⟨g3, eg3, _, _, hcl, _⟩ := Own1.at_ HO7.out e3
                    subst eg3
                    rw [e2] at hc7
                    have HHU := Lib.hid hHu
                    have hmb : m ≤ 80000 := by omega
                    have hqz : ((m : Int) + 1 == 0) = false := by rw [beq_eq_false_iff_ne]; omega
                    clear e1 e2 e3 hm hHu hR hv7
                    go_wp2
                    all_goals go_roundw
                    case rel => exact ⟨q + 1, vs5, H5, by omega, by go_num, HT5, HF5, Lib.hid (by have := HHN.out; rw [orH_same HHU.out] at this; exact this)⟩
                    case measure => simp [intOf]; omega
                  | false =>
                    have e1 : R = aft s.links k u := by rw [← hR]; unfold rowH; rw [if_neg (by rw [hHu]; decide), List.append_nil]
                    have HRR := Lib.hid (show aft s.links k u = R from e1.symm)
                    have HHU := Lib.hid hHu
                    by_cases hR0 : R.length = 0
                    · have HRL := Lib.hid hR0
                      have HV7 : Hid ((vs5[u]? : Option Value) = some (.slice A7 0 c7)) := Lib.hid (by rw [hv7, hR0])
                      rw [hR0] at hc7
                      have hR0' := hR0
                      clear hR0 hHu hR hv7 e1
                      go_wp2_with (at_builtin; refine Dag.wpList_appg rfl _ _ 34 3 (.int .i64 0) 8 Tryz.underlying34 info_int rfl (by decide) rfl w3.heap.size (.slice A7 0 c7) (ints (num R)) rfl (by have h9 := HO7.out; rw [HRL.out] at h9; exact h9.below (al _ _)) (some ⟨wr.heap.size, 0, none⟩) 1 1 [.int .i64 (k : Int)] rfl rfl (Sl.one rfl) (by simp [Value.oneCell']) (by rw [Dag.ints_len, Dag.num_len, HRL.out]; simp only [List.length_cons, List.length_nil]; omega) (by have := HF5.out.size; simp; omega) ?_; intro l A6 c6 w9 el ho9 hg9 hb9 _; obtain ⟨gz, ez, htz, hcz9, hfz9, hfr⟩ := HT5.out.appended (rowsV_get _ hul) HV7.out hg9 ho9 hb9 HF5.out.size; injection ez with ez; injection ez with ez; subst ez; have HTZ := Lib.hid htz; have HFR := Lib.hid hfr; have EL := Lib.hid el; clear htz hfr ho9 hg9 hb9 el)
                      all_goals go_roundw
                      case rel =>
                        refine ⟨q + 1, vs5.set u (.slice A6 l.length c6), orH H5 u, by omega, by go_num, Lib.hid ?_, Lib.hid (HF5.out.trans HFR.out), HHN⟩
                        have e2 : (rowsV s.tasks.length (rowH s.links k H5)).set u l = rowsV s.tasks.length (rowH s.links k (orH H5 u)) := by
                          have e3 : l = ints (num (rowH s.links k (orH H5 u) u)) := by
                            rw [EL.out]
                            have : rowH s.links k (orH H5 u) u = R ++ [k] := by
                              unfold rowH orH
                              rw [HRR.out]; simp
                            rw [this]
                            simp [ints, num]
                          rw [e3]
                          refine rowsV_set hul fun i _ hi => ?_
                          unfold rowH orH
                          simp [hi]
                        rw [← e2]
                        exact HTZ.out
                      case measure => simp [intOf]; omega
                    · obtain ⟨m, hm⟩ : ∃ m, R.length = m + 1 := ⟨R.length - 1, by omega⟩
                      obtain ⟨y, hy⟩ : ∃ y, R[m]? = some y := ⟨_, List.getElem?_eq_getElem (by omega)⟩
                      have hyk : y < k := by rw [e1] at hy; exact aft_lt (List.mem_of_getElem? hy)
                      have e3 : (ints (num R))[m]? = some (.int .i64 (y : Int)) := Dag.ints_get (by rw [Dag.num_get, hy]; rfl)
                      obtain ⟨g3, eg3, _, _, hcl, _⟩ := Own1.at_ HO7.out e3
                      subst eg3
                      have hyz : ((y : Int) == (k : Int)) = false := by rw [beq_eq_false_iff_ne]; omega
                      have hqz : ((m : Int) + 1 == 0) = false := by rw [beq_eq_false_iff_ne]; omega
                      have HRL := Lib.hid hm
                      have hml : m ≤ 80000 := by rw [← e1] at hRl; omega
                      have HV7 : Hid ((vs5[u]? : Option Value) = some (.slice (some ⟨g3, 0, none⟩) (m + 1) c7)) := Lib.hid (by rw [hv7, hm])
                      rw [hm] at hc7
                      clear hm hy e3 hR0 hHu hR hv7 e1 hRl
                      go_wp2_with (at_builtin; refine Dag.wpList_appg rfl _ _ 34 3 (.int .i64 0) 8 Tryz.underlying34 info_int rfl (by decide) rfl w3.heap.size (.slice (some ⟨g3, 0, none⟩) (m + 1) c7) (ints (num R)) rfl (by have h9 := HO7.out; rw [HRL.out] at h9; exact h9.below (al _ _)) (some ⟨wr.heap.size, 0, none⟩) 1 1 [.int .i64 (k : Int)] rfl rfl (Sl.one rfl) (by simp [Value.oneCell']) (by rw [Dag.ints_len, Dag.num_len, HRL.out]; simp only [List.length_cons, List.length_nil]; omega) (by have := HF5.out.size; simp; omega) ?_; intro l A6 c6 w9 el ho9 hg9 hb9 _; obtain ⟨gz, ez, htz, hcz9, hfz9, hfr⟩ := HT5.out.appended (rowsV_get _ hul) HV7.out hg9 ho9 hb9 HF5.out.size; injection ez with ez; injection ez with ez; subst ez; have HTZ := Lib.hid htz; have HFR := Lib.hid hfr; have EL := Lib.hid el; clear htz hfr ho9 hg9 hb9 el)
                      all_goals go_roundw
                      case rel =>
                        refine ⟨q + 1, vs5.set u (.slice A6 l.length c6), orH H5 u, by omega, by go_num, Lib.hid ?_, Lib.hid (HF5.out.trans HFR.out), HHN⟩
                        have e2 : (rowsV s.tasks.length (rowH s.links k H5)).set u l = rowsV s.tasks.length (rowH s.links k (orH H5 u)) := by
                          have e3 : l = ints (num (rowH s.links k (orH H5 u) u)) := by
                            rw [EL.out]
                            have : rowH s.links k (orH H5 u) u = R ++ [k] := by
                              unfold rowH orH
                              rw [HRR.out]; simp
                            rw [this]
                            simp [ints, num]
                          rw [e3]
                          refine rowsV_set hul fun i _ hi => ?_
                          unfold rowH orH
                          simp [hi]
                        rw [← e2]
                        exact HTZ.out
                      case measure => simp [intOf]; omega
                · obtain rfl : q = ys.length := by omega
                  have HHN := Lib.hid ((by have := HH5.out; rw [List.take_length] at this; exact this : Hit s.links fk jj ys H5).next HX.out HS2.out)
                  go_wp2
                  go_roundw
                  case rel => exact ⟨jj + 1, vs5, H5, by omega, by go_num, HT5, HF5, HHN⟩
                  case measure => simp [intOf]; omega
            · obtain rfl : jj = fk.length := by omega
              have HTN := Lib.hid (show T6 wr base w3.heap.size TA tc s.tasks vs4 (rowsV s.tasks.length (aft s.links (k + 1))) from by
                rw [← rowH_end (f := f) (k := k) (H := H4) HF.out (by rw [HFKE.out]; exact HH4.out)]
                exact HT4.out)
              go_wp2
              go_roundw
              case rel => exact ⟨k + 1, vs4, by omega, by go_num, HTN, HF4⟩
              case measure => simp [intOf]; omega
        · obtain rfl : k = s.tasks.length := by omega
          go_wp2
          have hDne : D ≠ gt := fun e => GT2.out _ 60 (by decide) (by rw [← e]; exact HD3.out)
          refine ⟨rfl, _, results_none rfl _ _ _, rfl, ?_, TA, tc, HA, hc, LA, lc, M, ?_, fun w2 hk2 => (HT3.out.keepT hk2).tasks HP.out.nm⟩
          · have h1 := HB.out
            have h2 := HF3.out
            exact ⟨h2.os.trans h1.os, h2.tape.trans h1.tape, h2.output.trans h1.output, Nat.le_trans h1.size h2.size, fun b hb => (h2.block b (by have := h1.size; omega) (by have := GT0.out; omega)).trans (h1.block b (by omega))⟩
          · exact (HF3.out.block D (Dag.blk_lt HD3.out) hDne).trans HD3.out

end Go.Proofs.YtkcijibkloamkaaGreatDoor

/- What holds of a draft whatever the lines are. -/
namespace Go.Proofs.YtkcijibkloamkaaGreatDoor
open Txt (nameD dec)
open Lib (decodeL)
set_option linter.unusedVariables false

theorem width4 {l : List UInt8} (h : l ≠ []) : (decodeL l).2 ≤ 4 ∧ 1 ≤ (decodeL l).2 := by
  refine ⟨?_, Lib.decodeL_width l⟩
  by_cases ha : (l.getD 0 0).toNat < 128
  · rw [Txt.step_ascii h ha]; show 1 ≤ 4; decide
  · have f := (Txt.decodeN_facts l.length (l.getD 0 0).toNat (l.getD 1 0).toNat (l.getD 2 0).toNat (l.getD 3 0).toNat (by omega)).2.1
    rw [← Lib.decodeL_N] at f
    exact f
theorem dec_bytes : ∀ (n : Nat) (l : List UInt8), l.length ≤ n → l.length ≤ 4 * (dec l).length
  | 0, l, h => by omega
  | n + 1, l, h => by
    by_cases hl : l = []
    · subst hl; simp
    · rw [Txt.dec_step l hl, List.length_cons]
      have hw := width4 hl
      have := dec_bytes n (l.drop (decodeL l).2) (by rw [List.length_drop]; omega)
      rw [List.length_drop] at this
      omega
theorem nameD_len {l : List UInt8} (h : nameD l = true) : l.length ≤ 160 := by
  rw [Txt.nameD_eq] at h
  simp only [Bool.and_eq_true, decide_eq_true_eq] at h
  have := dec_bytes l.length l (Nat.le_refl _)
  omega
structure Inv (s : St) : Prop where
  links : LinksIn s.tasks.length s.links
  name : s.name = [] ∨ nameD s.name = true
  names : ∀ t ∈ s.tasks, nameD t.name = true
theorem Inv.start : Inv St.start := ⟨fun k h => by simp [St.start] at h, Or.inl rfl, fun t h => by simp [St.start] at h⟩
theorem LinksIn.mono {n m : Nat} {l : List (List Nat × List Nat)} (h : LinksIn n l) (hm : n ≤ m) : LinksIn m l := fun k hk => ⟨fun x hx => Nat.lt_of_lt_of_le ((h k hk).1 x hx) hm, fun x hx => Nat.lt_of_lt_of_le ((h k hk).2 x hx) hm⟩
theorem idxs_lt {ts : List TaskP} {l : List (List UInt8)} {p : List Nat} (h : idxs (namesP ts) l = some p) : ∀ x ∈ p, x < ts.length := by
  unfold idxs at h
  split at h
  · rename_i ha
    injection h with h
    subst h
    intro x hx
    obtain ⟨s, hs, rfl⟩ := List.mem_map.1 hx
    have := List.all_eq_true.1 ha s hs
    exact idx_lt (by simpa using this)
  · cases h
theorem Inv.setTask {s : St} (h : Inv s) {v : Nat} {t t' : TaskP} (ht : s.tasks[v]? = some t) (hn : t'.name = t.name) : Inv { s with tasks := s.tasks.set v t' } := by
  refine ⟨by simpa using h.links, h.name, fun x hx => ?_⟩
  rcases List.mem_or_eq_of_mem_set hx with hx | rfl
  · exact h.names x hx
  · rw [hn]; exact h.names t (List.mem_of_getElem? ht)
theorem put_name (t : TaskP) (k : Nat) (n : Int) : (t.put k n).name = t.name := by
  unfold TaskP.put; split <;> rfl
theorem Inv.add {s s' : St} {k : Nat} {x : List (List UInt8)} (h : Inv s) (he : addSt s k x = .ok s') : Inv s' := by
  unfold addSt at he
  split at he
  · cases he
  split at he
  · unfold parSt at he
    split at he
    · rename_i p c hp hc
      injection he with he; subst he
      refine ⟨fun q hq => ?_, h.name, h.names⟩
      rcases List.mem_append.1 hq with hq | hq
      · exact h.links q hq
      · simp at hq; subst hq; exact ⟨idxs_lt hp, idxs_lt hc⟩
    · cases he
  · split at he
    · cases he
    · split at he
      · unfold beginSt at he
        split at he
        · cases he
        split at he
        · cases he
        rename_i hn
        injection he with he; subst he
        exact ⟨h.links, Or.inr (by simpa using hn), h.names⟩
      split at he
      · unfold setSt at he
        split at he
        · cases he
        split at he
        · cases he
        injection he with he
        split at he <;> (subst he; exact ⟨h.links, h.name, h.names⟩)
      split at he
      · unfold jobSt at he
        split at he
        · cases he
        split at he
        · cases he
        rename_i ht _
        injection he with he; subst he
        refine ⟨?_, h.name, fun t hm => ?_⟩
        · exact h.links.mono (by simp)
        · rcases List.mem_append.1 hm with hm | hm
          · exact h.names t hm
          · simp at hm; subst hm
            simp only [Bool.not_eq_false] at ht
            unfold taskName at ht
            rw [Bool.and_eq_true] at ht
            exact ht.1
      · unfold taskSt at he
        split at he
        · split at he
          · cases he
          · rename_i t htk
            unfold telSt at he
            split at he
            · cases he
            split at he
            · injection he with he; subst he; exact h.setTask htk (put_name _ _ _)
            split at he
            · cases he
            · split at he
              · cases he
              · injection he with he; subst he; exact h.setTask htk (put_name _ _ _)
        · cases he
theorem Inv.line {s s' : St} {l : List UInt8} (h : Inv s) (he : lineSt s l = .ok s') : Inv s' ∧ s'.tasks.length ≤ s.tasks.length + 1 ∧ s'.links.length ≤ s.links.length + 1 := by
  unfold lineSt at he
  split at he
  · cases he
  split at he
  · injection he with he; subst he; exact ⟨h, by omega, by omega⟩
  · refine ⟨?_, addW_more he⟩
    unfold addW at he
    split at he
    · cases he
    · exact h.add he
theorem Inv.feed {ls : List (List UInt8)} : ∀ {s s' : St} {i : Nat}, Inv s → feed s i ls = .inr s' → Inv s' ∧ s'.tasks.length ≤ s.tasks.length + ls.length ∧ s'.links.length ≤ s.links.length + ls.length := by
  induction ls with
  | nil => intro s s' i h he; unfold Go.Proofs.YtkcijibkloamkaaGreatDoor.feed at he; injection he with he; subst he; exact ⟨h, by simp, by simp⟩
  | cons l ls ih =>
    intro s s' i h he
    unfold Go.Proofs.YtkcijibkloamkaaGreatDoor.feed at he
    split at he
    · cases he
    · rename_i s2 hl
      obtain ⟨h1, h2, h3⟩ := h.line hl
      obtain ⟨h4, h5, h6⟩ := ih h1 he
      exact ⟨h4, by rw [List.length_cons]; omega, by rw [List.length_cons]; omega⟩

end Go.Proofs.YtkcijibkloamkaaGreatDoor


