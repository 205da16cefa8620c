/- Regions that draw their order, in a round of a range over a function: as everywhere else.
   Layer 7: Up in plain words: from the last one in the order on. No program.
   Layer 7: Up: the time from each task's begin to the end of all behind it. -/
import Derived.Test.YtaiolhanbjndcaaDoorMSeq
import Derived.Test.YtaiolhanbjndcaaDoorMTel
import Derived.OrdersHeld
import Derived.OrdersIn
import Derived.Test.YtaiolhanbjndcaaDoorMFlw
import Derived.Test.YtaiolhanbjndcaaDoorMIt
import Derived.Test.YtaiolhanbjndcaaDoorMGra
import Derived.Test.YtaiolhanbjndcaaDoorMRnk
namespace Go.Proofs.YtaiolhanbjndcaaDoor
open Go.RowKit Go.Shelf
set_option linter.unusedVariables false
section
variable {P : Program} {ops : Array Oper} {Q : Exit → Act → World → Prop} {md : Region.Mode} {S : World → Prop} {l n : Nat}

def noDeferB (ops : Array Oper) : Bool := ops.all fun o => match o.op with
  | .defer _ => false
  | _ => true
theorem noDeferB_at {i : Nat} {o : Oper} (h : noDeferB ops = true) (hi : ops[i]? = some o) : ∀ c, o.op ≠ .defer c := by
  intro c e
  have h1 := Array.all_eq_true'.1 h o (Array.mem_of_getElem? hi)
  rw [e] at h1
  cases h1
theorem oper_in {o : Oper} {a : Act} {w : World} {K : Act → World → Prop} (hd : ∀ c, o.op ≠ .defer c) (h : o.wp P a w K Q) : o.wpIn (Fence.wide.inRound l) n P a w K Q := by
  refine ⟨fun _ _ => trivial, ?_⟩
  show o.uponIn (Fence.wide.inRound l) n P a K Q ((o.semAt (some l) a.eval).run P w)
  rw [Oper.semAt_some l a.eval o hd]
  unfold Oper.wp at h
  generalize (execOp a.eval o).run P w = r at *
  cases r with
  | ok x w' =>
    cases x with
    | value v => exact h
    | skip => exact h
    | defer d => exact h
    | enter f args => exact ⟨(fun h => by cases h), CallsIn.inRound l ((callsIn_wide.2 h).mono fun e w'' he => by cases e <;> exact he)⟩
    | row row args => exact ⟨(fun h => by cases h), fun c cs _ => let ⟨v, w', r, s⟩ := h c cs; ⟨v, w', r, stepsIn_wide.2 s⟩⟩
    | _ => exact h.elim
  | halt x w' => cases x <;> exact h
theorem wpAny_in (hd : noDeferB ops = true) (hQ : ¬ LetsOut Q) : ∀ (fuel : Nat) (listed : Array Bool) (a : Act) (w : World), wpAny P md ops Q fuel listed a w → wpAnyIn (Fence.wide.inRound l) n P md ops Q fuel listed a w
  | 0, _, _, _, h => h
  | fuel + 1, listed, a, w, h => ⟨h.1, fun i hi => by
    have h1 := h.2 i hi
    unfold wpOp at h1
    unfold wpOpIn
    cases ho : ops[i]? with
    | none => simp only [ho] at h1 ⊢; exact wpAny_in hd hQ fuel _ _ _ h1
    | some o =>
      simp only [ho] at h1 ⊢
      by_cases hw : Region.wanted o (yielded ops a.tmps) = true
      · rw [if_pos hw] at h1 ⊢
        rcases h1 with h1 | h1
        · exact Oper.wpIn_mono (fun a' w' h' => wpAny_in hd hQ fuel _ a' w' h') (oper_in (noDeferB_at hd ho) h1)
        · exact absurd h1.2 hQ
      · rw [if_neg hw] at h1 ⊢
        exact ⟨fun _ _ => trivial, wpAny_in hd hQ fuel _ _ _ h1⟩⟩
theorem wpIn_region_held {id : Nat} {a : Act} {w : World} (S : World → Prop) (hm : P.follows .mixedOrders = true) (hd : noDeferB ops = true) (hQ : ¬ LetsOut Q)
    (h : wpAnyH P .any ops Q S ops.size (Array.replicate ops.size false) a w.drew) : (Code.region id ops true).wpIn (Fence.wide.inRound l) n P Q a w :=
  wpIn_region_any hm (wpAny_in hd hQ _ _ _ _ (wpAny_of_held _ _ _ _ h))
/-- a read, taken first -/
theorem wpAnyH_read {i : Nat} (oi : Oper) {v : Value} {fuel : Nat} {listed : Array Bool} {a : Act} {w : World} (hi : ops[i]? = some oi)
    (hs : Region.noSelect ops = true) (hf : Region.free md ops listed i = true) (hr : (Region.ready md ops listed).contains i = true)
    (hQ : ∀ c a w, Q (.panic c) (a.put oi.dst v) w → Q (.panic c) a w) (hS : S w) (hw : Region.wanted oi (yielded ops a.tmps) = true) (hy : ∀ w, S w → (execOp a.eval oi).run P w = .ok (.value v) w)
    (h : wpAnyH P md ops Q S fuel (listed.setIfInBounds i true) (a.put oi.dst v) w) : wpAnyH P md ops Q S (fuel + 1) listed a w :=
  wpAnyH_take hi hs hf hr hQ (Or.inl ⟨hw, hy⟩) hS h
/-- the only one that may come up -/
theorem wpAnyH_one {i : Nat} (oi : Oper) {fuel : Nat} {listed : Array Bool} {a : Act} {w : World} (hi : ops[i]? = some oi) (hr : Region.ready md ops listed = [i])
    (h : ∀ K : Act → World → Prop, Shut (∀ a' w', S w' → wpAnyH P md ops Q S fuel (listed.setIfInBounds i true) a' w' → K a' w') → if Region.wanted oi (yielded ops a.tmps) = true then Oper.wp P oi a w K Q else K (a.put oi.dst undef) w) :
    wpAnyH P md ops Q S (fuel + 1) listed a w := by
  refine ⟨fun h1 => (by rw [hr] at h1; cases h1), fun j hj => ?_⟩
  rw [hr] at hj
  have hji : j = i := by simpa using hj
  subst hji
  exact wpOp_step hi fun K' hK => h K' (fun a' w' hS hW => hK a' w' ⟨hS, hW⟩)
theorem wpIn_region_R {id k : Nat} {a : Act} {w : World} (S : World → Prop) (n : Nat) (hm : P.follows .mixedOrders = true) (hd : noDeferB ops = true) (hQ : ¬ LetsOut Q)
    (h : wpAnyR P .any ops Q S n ops.size (Array.replicate ops.size false) a w.drew) : (Code.region id ops true).wpIn (Fence.wide.inRound l) k P Q a w :=
  wpIn_region_any hm (wpAny_in hd hQ _ _ _ _ (wpAny_of_R _ _ _ _ h))
/-- reads, by their numbers -/
def leadI (md : Region.Mode) (ops : Array Oper) (n : Nat) : List Nat → Array Bool → Bool
  | [], _ => true
  | i :: is, listed => (Region.ready md ops listed).contains i && (Region.free md ops listed i && (lateB md ops n i && leadI md ops n is (listed.setIfInBounds i true)))
def setI : List Nat → Array Bool → Array Bool
  | [], listed => listed
  | i :: is, listed => setI is (listed.setIfInBounds i true)
def wpLeadI (P : Program) (ops : Array Oper) (S : World → Prop) (L : Act → Prop) : List Nat → Act → Prop
  | [], a => L a
  | i :: is, a => ∃ o v, ops[i]? = some o ∧ YieldsIf P ops S o v a ∧ wpLeadI P ops S L is (a.put o.dst v)
theorem wpAnyR_leadI (hs : Region.noSelect ops = true) (hQ : ∀ c a d v w, Q (.panic c) (Act.put a d v) w → Q (.panic c) a w) {w : World} (hS : S w) : ∀ (is : List Nat) (g : Nat) (listed : Array Bool) (a : Act),
    leadI md ops n is listed = true → wpLeadI P ops S (fun a' => wpAnyR P md ops Q S n g (setI is listed) a' w) is a → wpAnyR P md ops Q S n (is.length + g) listed a w
  | [], g, listed, a, _, h => by simpa [wpLeadI, setI] using h
  | i :: is, g, listed, a, hB, h => by
    simp only [leadI, Bool.and_eq_true] at hB
    obtain ⟨b1, b2, b3, b4⟩ := hB
    obtain ⟨o, v, h0, hy, h⟩ := h
    rw [List.length_cons, show is.length + 1 + g = (is.length + g) + 1 from by omega]
    exact wpAnyR_take h0 hs b2 b1 b3 (fun c a w => hQ c a _ _ w) hy hS (wpAnyR_leadI hs hQ hS is g _ _ b4 h)
theorem wpLeadI_step {L : Act → Prop} {i : Nat} {is : List Nat} {a : Act} {v : Value} (o : Oper) (hi : ops[i]? = some o) (hw : Region.wanted o (yielded ops a.tmps) = true) (hy : ∀ w, S w → (execOp a.eval o).run P w = .ok (.value v) w) (h : wpLeadI P ops S L is (a.put o.dst v)) : wpLeadI P ops S L (i :: is) a := ⟨o, v, hi, Or.inl ⟨hw, hy⟩, h⟩
theorem wpAnyR_tail {ls : List Oper} {g n : Nat} {listed : Array Bool} {a : Act} {w : World} (hg : (ls.drop n).length = g) (hB : Region.seqB md ls.toArray g n listed = true) (h : wpList P ls.toArray Q (ls.drop n) a w) : wpAnyR P md ls.toArray Q S n g listed a w := by
  subst hg
  exact wpAnyR_seq (ls.drop n) n listed a w (Nat.le_refl _) (fun j => by rw [List.getElem?_drop, List.getElem?_toArray]) hB h
end
theorem bodyB_out {α : Type} {B : Nat} {I : List α → World → Prop} {Ix : Code → List α → World → Prop} {pre : List α} {W : World} : ¬ LetsOut (bodyB B I Ix pre W) := fun ⟨_, _, h⟩ => h
end Go.Proofs.YtaiolhanbjndcaaDoor
namespace Go.Proofs.YtaiolhanbjndcaaDoor
open Dag (num num_mem num_len Ord order befL behL bef_mem beh_mem order_ord arc)
set_option linter.unusedVariables false

structure UpK (ts : List TaskD) (pre : List Nat) (xs : List Int) : Prop where
  len : xs.length = ts.length
  at_ : ∀ u x, xs[u]? = some x → u ∈ pre → x = upD ts u ∧ x ≤ maxT
theorem UpK.start (ts : List TaskD) {xs : List Int} (h : xs.length = ts.length) : UpK ts [] xs := ⟨h, fun u x _ hu => by simp at hu⟩
section
variable {ts : List TaskD} (hf : (order (afterL ts)).length = ts.length) (hV : Dag.Valid (afterL ts))
include hf hV
theorem rev_behind {pre rest : List Nat} {v w : Nat} (h : (order (afterL ts)).reverse = pre ++ v :: rest) (hw : w ∈ behL (afterL ts) v) : v < ts.length ∧ w < ts.length ∧ w ∈ pre := by
  obtain ⟨h1, h2, h3⟩ := up_arc hf hV hw
  refine ⟨h1, h2, ?_⟩
  have ho : order (afterL ts) = rest.reverse ++ v :: pre.reverse := by
    have := congrArg List.reverse h
    rw [List.reverse_reverse] at this
    rw [this]; simp
  have hnd := (order_ord (afterL ts)).nodup
  have hp : posD ts v < posD ts w := by
    obtain ⟨q1, q2⟩ := bef_beh hw
    have hb : v ∈ befL (afterL ts) w := bef_mem.2 ⟨by rw [afterL_len]; exact h1, q2⟩
    exact pos_arc hf h2 hb
  have hm := (ord_all hf w).2 h2
  have hva : v ∉ rest.reverse := fun hin => by
    rw [ho, List.nodup_append] at hnd
    exact hnd.2.2 v hin v (by simp) rfl
  have hpv : posD ts v = rest.reverse.length := by
    unfold posD
    rw [ho, List.idxOf_append, if_neg hva, List.idxOf_cons_self]; omega
  rw [ho, List.mem_append, List.mem_cons] at hm
  rcases hm with hm | rfl | hm
  · have h4 : posD ts w < rest.reverse.length := by
      unfold posD
      rw [ho, List.idxOf_append, if_pos hm]
      exact List.idxOf_lt_length_of_mem hm
    omega
  · omega
  · simpa using hm
theorem UpK.sum {pre rest : List Nat} {v : Nat} {xs : List Int} (h : UpK ts pre xs) (hr : (order (afterL ts)).reverse = pre ++ v :: rest) (hv : v < ts.length) : maxL ((behL (afterL ts) v).map (atL xs)) + wtAt ts v = upD ts v := by
  rw [upD_step hf hV hv]
  unfold upS
  have : (behL (afterL ts) v).map (atL xs) = (behL (afterL ts) v).map (upD ts) := List.map_congr_left fun w hw => by
    obtain ⟨_, h2, h3⟩ := rev_behind hf hV hr hw
    obtain ⟨x, hx⟩ : ∃ x, xs[w]? = some x := ⟨_, List.getElem?_eq_getElem (by rw [h.len]; exact h2)⟩
    rw [atL_some hx]
    exact (h.at_ w x hx h3).1
  rw [this]
theorem UpK.bound {pre rest : List Nat} {v : Nat} {xs : List Int} (h : UpK ts pre xs) (hr : (order (afterL ts)).reverse = pre ++ v :: rest) : 0 ≤ maxL ((behL (afterL ts) v).map (atL xs)) ∧ maxL ((behL (afterL ts) v).map (atL xs)) ≤ maxT := by
  refine ⟨maxL_nonneg _, maxL_le (by decide) fun y hy => ?_⟩
  obtain ⟨w, hw, rfl⟩ := List.mem_map.1 hy
  obtain ⟨_, h2, h3⟩ := rev_behind hf hV hr hw
  obtain ⟨x, hx⟩ : ∃ x, xs[w]? = some x := ⟨_, List.getElem?_eq_getElem (by rw [h.len]; exact h2)⟩
  rw [atL_some hx]
  exact (h.at_ w x hx h3).2
omit hf hV in
theorem UpK.step {pre : List Nat} {v : Nat} {xs : List Int} (h : UpK ts pre xs) (hle : upD ts v ≤ maxT) : UpK ts (pre ++ [v]) (xs.set v (upD ts v)) := by
  refine ⟨by rw [List.length_set, h.len], fun u x hx hu => ?_⟩
  by_cases e : v = u
  · subst e
    have hl := (List.getElem?_eq_some_iff.1 hx).1
    rw [List.length_set] at hl
    rw [List.getElem?_set_self hl] at hx
    injection hx with hx
    subst hx
    exact ⟨rfl, hle⟩
  · rw [List.getElem?_set_ne e] at hx
    rw [List.mem_append, List.mem_singleton] at hu
    exact h.at_ u x hx (hu.resolve_right fun e' => e e'.symm)
omit hV in
theorem UpK.fin {xs : List Int} (h : UpK ts (order (afterL ts)).reverse xs) : okU ts.length (upD ts) = true ∧ xs = numsU ts.length (upD ts) := by
  have hall : ∀ u x, xs[u]? = some x → x = upD ts u ∧ x ≤ maxT := fun u x hx => by
    have hu := (List.getElem?_eq_some_iff.1 hx).1
    rw [h.len] at hu
    exact h.at_ u x hx (List.mem_reverse.2 ((ord_all hf u).2 hu))
  refine ⟨okU_iff.2 fun v hv => ?_, ?_⟩
  · obtain ⟨x, hx⟩ : ∃ x, xs[v]? = some x := ⟨_, List.getElem?_eq_getElem (by rw [h.len]; exact hv)⟩
    obtain ⟨h1, h2⟩ := hall v x hx
    omega
  · apply List.ext_getElem?
    intro i
    unfold numsU
    by_cases hi : i < ts.length
    · obtain ⟨x, hx⟩ : ∃ x, xs[i]? = some x := ⟨_, List.getElem?_eq_getElem (by rw [h.len]; exact hi)⟩
      rw [hx, List.getElem?_map, List.getElem?_range hi, (hall i x hx).1]; rfl
    · rw [List.getElem?_eq_none (by rw [h.len]; omega), List.getElem?_eq_none (by simp; omega)]
omit hf hV in
theorem up_over {n v : Nat} {U : Nat → Int} (hv : v < n) (h : maxT < U v) : okU n U = false := by
  cases e : okU n U with
  | false => rfl
  | true => have := okU_iff.1 e v hv; omega
end
end Go.Proofs.YtaiolhanbjndcaaDoor
namespace Go.Proofs.YtaiolhanbjndcaaDoor
open Go.RowKit Go.Shelf
open Dag (Ints Own1 Sl num num_len num_get Gr newE order behL order_ord wide_call wide_call_in)
set_option linter.unusedVariables false
set_option maxRecDepth 100000
attribute [local go_sem] Oper.semAt_some

theorem alloc4 (w : World) (a b c d : Obj) : ((((w.alloc a).alloc b).alloc c).alloc d).heap.size = w.heap.size + 4 ∧ ((((w.alloc a).alloc b).alloc c).alloc d).heap[w.heap.size]? = some a ∧ ((((w.alloc a).alloc b).alloc c).alloc d).heap[w.heap.size + 1]? = some b ∧ ((((w.alloc a).alloc b).alloc c).alloc d).heap[w.heap.size + 2]? = some c ∧ ((((w.alloc a).alloc b).alloc c).alloc d).heap[w.heap.size + 3]? = some d ∧ Below w.heap.size w ((((w.alloc a).alloc b).alloc c).alloc d) := by
  have h1 := heap_alloc_new w a
  have h2 := heap_alloc_new (w.alloc a) b
  have h3 := heap_alloc_new ((w.alloc a).alloc b) c
  have h4 := heap_alloc_new (((w.alloc a).alloc b).alloc c) d
  simp only [World.size_alloc] at h2 h3 h4
  refine ⟨by simp, ?_, ?_, ?_, h4, blw (blw (blw (al _ _) (al _ _)) (al _ _)) (al _ _)⟩
  · rw [Below.heap_alloc _ _ _ (by simp only [World.size_alloc]; omega), Below.heap_alloc _ _ _ (by simp only [World.size_alloc]; omega), Below.heap_alloc _ _ _ (by simp)]; exact h1
  · rw [Below.heap_alloc _ _ _ (by simp only [World.size_alloc]; omega), Below.heap_alloc _ _ _ (by simp)]; exact h2
  · rw [Below.heap_alloc _ _ _ (by simp)]; exact h3

/-- three results in cells -/
theorem results_3c {fn : Func} {t u v : Tmp} (h : fn.results = #[.cell t 41, .cell u 27, .cell v 28]) (tmps : Array Value) {w : World} {b0 b1 b2 : Nat} {x0 x1 x2 : Value}
    (h0 : tmps.getD t undef = .pointer (some ⟨b0, 0, none⟩)) (h1 : tmps.getD u undef = .pointer (some ⟨b1, 0, none⟩)) (h2 : tmps.getD v undef = .pointer (some ⟨b2, 0, none⟩))
    (c0 : w.cell? ⟨b0, 0, none⟩ = some x0) (c1 : w.cell? ⟨b1, 0, none⟩ = some x1) (c2 : w.cell? ⟨b2, 0, none⟩ = some x2) :
    (results fn tmps).run Tryd.prog w = .ok (.tuple #[x0, x1, x2]) w := by
  have g0 : tmps[t]?.getD undef = .pointer (some ⟨b0, 0, none⟩) := by simpa using h0
  have g1 : tmps[u]?.getD undef = .pointer (some ⟨b1, 0, none⟩) := by simpa using h1
  have g2 : tmps[v]?.getD undef = .pointer (some ⟨b2, 0, none⟩) := by simpa using h2
  simp [results, h, g0, g1, g2, asAddr, go_sem, c0, c1, c2]

/-- a workflow as an argument -/
structure FlA (w : World) (f : FlowD) (A : Option Addr) (c : Nat) : Prop where
  tasks : Tasks w A c f.tasks
  tb : Tb3 w
  nm : f.name.length ≤ 1000000
  nms : ∀ t ∈ f.tasks, t.name.length ≤ 1000000
  len : f.tasks.length ≤ 30
  aft : ∀ t ∈ f.tasks, t.after.length ≤ 1000000
theorem FlA.below {w w' : World} {f : FlowD} {A : Option Addr} {c : Nat} (h : FlA w f A c) (hb : Below w.heap.size w w') : FlA w' f A c := ⟨h.tasks.below hb, h.tb.below hb, h.nm, h.nms, h.len, h.aft⟩
theorem store3 {W : World} {b0 b1 b2 B : Nat} {y0 y1 y2 x0 x1 x2 : Value} {t0 t1 t2 : TypeId} (h0 : W.heap[b0]? = some (.cells #[y0] t0 (0, 0))) (h1 : W.heap[b1]? = some (.cells #[y1] t1 (0, 0))) (h2 : W.heap[b2]? = some (.cells #[y2] t2 (0, 0))) (d01 : b0 ≠ b1) (d02 : b0 ≠ b2) (d12 : b1 ≠ b2) (g0 : B ≤ b0) (g1 : B ≤ b1) (g2 : B ≤ b2) :
    (((W.setCell ⟨b0, 0, none⟩ x0).setCell ⟨b1, 0, none⟩ x1).setCell ⟨b2, 0, none⟩ x2).cell? ⟨b0, 0, none⟩ = some x0 ∧ (((W.setCell ⟨b0, 0, none⟩ x0).setCell ⟨b1, 0, none⟩ x1).setCell ⟨b2, 0, none⟩ x2).cell? ⟨b1, 0, none⟩ = some x1 ∧ (((W.setCell ⟨b0, 0, none⟩ x0).setCell ⟨b1, 0, none⟩ x1).setCell ⟨b2, 0, none⟩ x2).cell? ⟨b2, 0, none⟩ = some x2 ∧ Below B W (((W.setCell ⟨b0, 0, none⟩ x0).setCell ⟨b1, 0, none⟩ x1).setCell ⟨b2, 0, none⟩ x2) ∧
      (∀ k, k ≠ b0 → k ≠ b1 → k ≠ b2 → (((W.setCell ⟨b0, 0, none⟩ x0).setCell ⟨b1, 0, none⟩ x1).setCell ⟨b2, 0, none⟩ x2).heap[k]? = W.heap[k]?) := by
  have c0 := Dag.blk_cell h0 0; have c1 := Dag.blk_cell h1 0; have c2 := Dag.blk_cell h2 0
  simp only [List.getElem?_toArray, List.getElem?_cons_zero] at c0 c1 c2
  have oth : ∀ (V : World) (b k : Nat) (x : Value), k ≠ b → (V.setCell ⟨b, 0, none⟩ x).heap[k]? = V.heap[k]? := fun V b k x h => Below.heap_setCell _ _ _ _ h
  have same : ∀ (V : World) (b : Nat) (x y : Value), V.cell? ⟨b, 0, none⟩ = some y → (V.setCell ⟨b, 0, none⟩ x).cell? ⟨b, 0, none⟩ = some x := fun V b x y h => World.cell?_setCell_same' _ _ _ (by rw [h]; rfl)
  have kp : ∀ (V : World) (b k : Nat) (x y : Value), k ≠ b → V.cell? ⟨k, 0, none⟩ = some y → (V.setCell ⟨b, 0, none⟩ x).cell? ⟨k, 0, none⟩ = some y := fun V b k x y hne h => by
    rw [World.cell?_of_block (w := V) (a := ⟨k, 0, none⟩) (oth V b k x hne)]; exact h
  refine ⟨kp _ _ _ _ _ d02 (kp _ _ _ _ _ d01 (same _ _ _ _ c0)), kp _ _ _ _ _ d12 (same _ _ _ _ (kp _ _ _ _ _ (Ne.symm d01) c1)), same _ _ _ _ (kp _ _ _ _ _ (Ne.symm d12) (kp _ _ _ _ _ (Ne.symm d02) c2)), (((Below.refl B W).setCell (p := ⟨b0, 0, none⟩) g0 _).setCell (p := ⟨b1, 0, none⟩) g1 _).setCell (p := ⟨b2, 0, none⟩) g2 _, fun k k0 k1 k2 => ?_⟩
  rw [oth _ _ _ _ k2, oth _ _ _ _ k1, oth _ _ _ _ k0]

theorem set_other {W : World} {b o k i : Nat} {x v : Value} (hne : k ≠ b) (h : W.cell? ⟨k, i, none⟩ = some v) : (W.setCell ⟨b, o, none⟩ x).cell? ⟨k, i, none⟩ = some v := by
  rw [World.cell?_of_block (w := W) (a := ⟨k, i, none⟩) (Below.heap_setCell _ _ _ _ hne)]; exact h
theorem set_box {W : World} {b : Nat} {x y : Value} {t : TypeId} (h : W.heap[b]? = some (.cells #[y] t (0, 0))) : (W.setCell ⟨b, 0, none⟩ x).heap[b]? = some (.cells #[x] t (0, 0)) := by
  simp [World.setCell, Array.getElem?_modify, h]
def RetR (f : FlowD) (w : World) (e : Ending) (w' : World) : Prop := ∃ p A c, e = .returned (.tuple #[.pointer p, .slice A (rankV f (upD f.tasks)).length c, .int .i64 (rankE f (upD f.tasks))]) ∧ Ints w' A c (rankV f (upD f.tasks)) ∧ Below w.heap.size w w' ∧ (rankE f (upD f.tasks) = 0 → Gr w' (afterL f.tasks) (.pointer p)) ∧ (rankE f (upD f.tasks) ≠ 0 → p = none)
theorem retR_err {f : FlowD} {w w' : World} {x : Int} (h : rankE f (upD f.tasks) = x) (hx : x ≠ 0) (hb : Below w.heap.size w w') : RetR f w (.returned (.tuple #[.pointer none, .slice none 0 0, .int .i64 x])) w' := by
  have hv : rankV f (upD f.tasks) = [] := by unfold rankV; rw [h, if_neg hx]
  exact ⟨none, none, 0, by rw [hv, h]; rfl, by rw [hv]; exact Sl.empty _, hb, fun e => absurd (h.symm.trans e) hx, fun _ => rfl⟩

set_option maxHeartbeats 3200000 in
theorem ranked_any (f : FlowD) (A : Option Addr) (c : Nat) (w : World) (hA : FlA w f A c) :
    Calls Tryd.prog 20 #[.agg #[.string (sb f.name), .int .i64 f.deadline, .int .i64 f.priority, .slice A f.tasks.length c]] w (RetR f w) := by
  have hlen := hA.len
  have HG := Lib.hid fun W (hW : Below w.heap.size w W) => graph_any f A c W (hA.tasks.below hW) (hA.tb.below hW) (by have := hA.nm; omega) (fun t ht => by have := hA.nms t ht; omega) (by omega) hA.aft
  have H := Lib.hid hA.tasks
  clear hA
  unfold RetG at HG
  obtain ⟨x, hx⟩ : ∃ x, checkE f = x := ⟨_, rfl⟩
  have HX := Lib.hid hx
  rw [hx] at HG
  clear hx
  refine (callsIn_wide (n := 3)).1 (callsIn_of_wp_marks Tryd.func20 rfl trivial ?_ rfl)
  simp only [Tryd.ntmps20, List.size_toArray, List.length_cons, List.length_nil, Nat.reduceAdd, Nat.reduceSub, Array.replicate_succ, Array.replicate_zero, List.push_toArray, List.append_toArray, List.nil_append, List.cons_append]
  refine wpIn_wide.2 ?_
  obtain ⟨hz, k0, k1, k2, k3, hbA⟩ := alloc4 w (flowO f A c) (.cells #[.pointer none] 41) (.cells #[.slice none 0 0] 27) (.cells #[.int .i64 0] 28)
  have HK := Lib.hid hz; have HK0 := Lib.hid k0; have HK1 := Lib.hid k1; have HK2 := Lib.hid k2; have HK3 := Lib.hid k3; have HBA := Lib.hid hbA
  clear hz k0 k1 k2 k3 hbA
  by_cases h0 : x = 0
  case neg =>
    have hxn : (x != 0) = true := by simp [h0]
    have HE : Hid (rankE f (upD f.tasks) = x) := Lib.hid (by unfold rankE; rw [HX.out, if_pos h0])
    have H0 := Lib.hid h0
    clear h0
    go_wp2_with fail
    refine (HG.out _ HBA.out).mono ?_
    rintro e w1 ⟨p, rfl, hb1, _, hp1⟩
    obtain rfl := hp1 H0.out
    have r1 := (hb1.block _ (by rw [HK.out]; omega)).trans HK1.out
    have r2 := (hb1.block _ (by rw [HK.out]; omega)).trans HK2.out
    have r3 := (hb1.block _ (by rw [HK.out]; omega)).trans HK3.out
    have HBW := Lib.hid (HBA.out.trans (hb1.mono HBA.out.size))
    have HR1 := Lib.hid r1; have HR2 := Lib.hid r2; have HR3 := Lib.hid r3
    have hsz : w.heap.size + 3 < w1.heap.size := Dag.blk_lt r3
    have hs1 : w.heap.size + 1 < w1.heap.size := by omega
    have hs2 : w.heap.size + 2 < w1.heap.size := by omega
    have hs0 : w.heap.size < w1.heap.size := by omega
    have d1 := Dag.blk_cell r1 0; have d2 := Dag.blk_cell r2 0; have d3 := Dag.blk_cell r3 0
    have f1 := Dag.blk_frozen r1 0; have f2 := Dag.blk_frozen r2 0; have f3 := Dag.blk_frozen r3 0
    simp only [List.getElem?_toArray, List.getElem?_cons_zero] at d1 d2 d3
    clear hb1 hp1 HK HK0 HK1 HK2 HK3 HBA r1 r2 r3
    go_wp2_with fail
    go_region
    all_goals
      obtain ⟨g0, g1, g2, gb, _⟩ := store3 (W := w1) (B := w.heap.size) (x0 := .pointer none) (x1 := .slice none 0 0) (x2 := .int .i64 x) HR1.out HR2.out HR3.out (by omega) (by omega) (by omega) (by omega) (by omega) (by omega)
      have G0 := Lib.hid g0; have G1 := Lib.hid g1; have G2 := Lib.hid g2; have GB := Lib.hid (HBW.out.trans gb)
      clear g0 g1 g2 gb d1 d2 d3 f1 f2 f3
      go_wp2
      refine ⟨_, results_3c rfl _ rfl rfl rfl (kp_cell (al _ _).drew G0.out) (kp_cell (al _ _).drew G1.out) (kp_cell (al _ _).drew G2.out), ?_⟩
      exact retR_err HE.out H0.out (blw GB.out (al _ _)).drew
  subst h0
  go_wp2_with fail
  refine (HG.out _ HBA.out).mono ?_
  rintro e w1 ⟨p, rfl, hb1, hg1, _⟩
  have hgf := hg1 (by first | rfl | trivial)
  have hg := hgf.gr
  obtain ⟨pa, rfl⟩ : ∃ pa, p = .pointer pa := by obtain ⟨g, _, _, _, _, _, _, e, _⟩ := hg.ex; exact ⟨_, e⟩
  have r0 := (hb1.block _ (by rw [HK.out]; omega)).trans HK0.out
  have r1 := (hb1.block _ (by rw [HK.out]; omega)).trans HK1.out
  have r2 := (hb1.block _ (by rw [HK.out]; omega)).trans HK2.out
  have r3 := (hb1.block _ (by rw [HK.out]; omega)).trans HK3.out
  have HBW := Lib.hid (HBA.out.trans (hb1.mono HBA.out.size))
  have HR0 := Lib.hid r0; have HR1 := Lib.hid r1; have HR2 := Lib.hid r2; have HR3 := Lib.hid r3
  have hsz : w.heap.size + 3 < w1.heap.size := Dag.blk_lt r3
  have HGR := Lib.hid hg
  have HGF := Lib.hid (hgf.mono (by rw [HK.out]; omega : w.heap.size + 4 ≤ _))
  have HEL := Lib.hid (afterL_len f.tasks)
  clear hb1 hg1 hg hgf HK HK0 HK1 HK2 HK3 HBA r0 r1 r2 r3
  go_wp2_with fail
  have hln := Dag.len_any (HGR.out.below (al w1 (.cells #[.int .i64 0] 28)))
  rw [HEL.out] at hln
  refine hln.mono ?_
  clear hln
  rintro e w2 ⟨rfl, rfl⟩
  have hmk := fun W : World => Dag.run_mk W 27 3 _ 8 Tryd.underlying27 Dag.info_int rfl (by decide) f.tasks.length (by omega) _ _ rfl rfl
  go_wp2_with fail
  clear hmk
  refine (backwards_any pa _).mono ?_
  rintro e w5 ⟨rfl, tg, rfl⟩
  go_wp2_with fail
  obtain ⟨z8, q0, q1, q2, q3, hb8⟩ := alloc4 w1 (.cells #[.int .i64 0] 28) (.cells (Array.replicate f.tasks.length (.int .i64 0)) 3) (.cells #[.slice (some ⟨w1.heap.size + 1, 0, none⟩) f.tasks.length f.tasks.length] 27) (.cells #[.pointer pa] tg)
  have ho0 : Own1 (((w1.alloc (.cells #[.int .i64 0] 28)).alloc (.cells (Array.replicate f.tasks.length (.int .i64 0)) 3))) (w1.heap.size + 1) 3 (.slice (some ⟨w1.heap.size + 1, 0, none⟩) f.tasks.length f.tasks.length) (Dag.ints (List.replicate f.tasks.length 0)) := by
    rw [show Dag.ints (List.replicate f.tasks.length 0) = List.replicate f.tasks.length (.int .i64 0) from by simp [Dag.ints]]
    exact Own1.make _ _ 3 (by simp) f.tasks.length (by omega) (.int .i64 0) (by simp)
  have ho8 := (ho0.below (al _ (.cells #[.slice (some ⟨w1.heap.size + 1, 0, none⟩) f.tasks.length f.tasks.length] 27))).below (al _ (.cells #[.pointer pa] tg))
  clear ho0
  generalize (((w1.alloc (.cells #[.int .i64 0] 28)).alloc (.cells (Array.replicate f.tasks.length (.int .i64 0)) 3)).alloc (.cells #[.slice (some ⟨w1.heap.size + 1, 0, none⟩) f.tasks.length f.tasks.length] 27)).alloc (.cells #[.pointer pa] tg) = W8 at z8 q0 q1 q2 q3 hb8 ho8 ⊢
  obtain ⟨eb, heb⟩ : ∃ eb, w1.heap.size = eb := ⟨_, rfl⟩
  have hb8' : Below eb w1 W8 := by rw [← heb]; exact hb8
  rw [heb] at z8 q0 q1 q2 q3 ho8 hsz ⊢
  have HZ8 := Lib.hid z8; have HQ0 := Lib.hid q0; have HQ1 := Lib.hid q1; have HQ2 := Lib.hid q2; have HQ3 := Lib.hid q3; have HB8 := Lib.hid hb8'; have HO8 := Lib.hid ho8; have HEB := Lib.hid heb
  have HFU : Hid ((order (afterL f.tasks)).length = f.tasks.length) := Lib.hid (by rw [HGR.out.full, HEL.out])
  have HVA := Lib.hid (chk_facts HX.out).2.1
  have HPO := Lib.hid fun (t : TaskD) (hm : t ∈ f.tasks) => nums_wgt HX.out hm false
  clear z8 q0 q1 q2 q3 hb8 hb8' ho8 heb
  refine (wpIn_wide (n := 3)).1 (range_seqB (α := Nat) (gf := 51) (lb := #[.pointer (some ⟨eb + 1 + 1 + 1, 0, none⟩)]) rfl (fun args w => by simp [go_sem]) (fun pre x args X h => by obtain ⟨_, A2, c2, rfl, _⟩ := h; rfl)
    (back1_seqB (3 - 1) (afterL f.tasks) pa (by rw [HEL.out]; exact hlen) (eb + 1 + 1 + 1) W8) (Below.refl _ _) (fun pre x args X Y hc h => by obtain ⟨h1, A2, c2, h2, h3⟩ := h; exact ⟨h1, A2, c2, h2, ints_cel h3 hc⟩)
    (fun pre X => ∃ xs, Hid (UpK f.tasks pre xs) ∧ Hid (Own1 X (eb + 1) 3 (.slice (some ⟨eb + 1, 0, none⟩) f.tasks.length f.tasks.length) (Dag.ints xs)) ∧ Hid (X.heap[eb]? = some (.cells #[.int .i64 0] 28 (0, 0))) ∧ Hid (X.heap[eb + 2]? = some (.cells #[.slice (some ⟨eb + 1, 0, none⟩) f.tasks.length f.tasks.length] 27 (0, 0))) ∧ Hid (X.heap[eb + 3]? = some (.cells #[.pointer pa] tg (0, 0))) ∧ Hid (Below eb w1 X) ∧ Hid (W8.heap.size ≤ X.heap.size))
    (fun cd pre X => Hid (cd = .ret) ∧ Hid (rankE f (upD f.tasks) = 6) ∧ Hid (X.cell? ⟨w.heap.size + 1, 0, none⟩ = some (.pointer none)) ∧ Hid (X.cell? ⟨w.heap.size + 2, 0, none⟩ = some (.slice none 0 0)) ∧ Hid (X.cell? ⟨w.heap.size + 3, 0, none⟩ = some (.int .i64 6)) ∧ Hid (Below w.heap.size w X))
    ?oi ?oix ?ok ?h0 (fun args => { tmps := #[.agg #[.string (sb f.name), .int .i64 f.deadline, .int .i64 f.priority, .slice A f.tasks.length c], .pointer (some ⟨w.heap.size, 0, none⟩), .pointer (some ⟨w.heap.size + 1, 0, none⟩), .pointer (some ⟨w.heap.size + 1 + 1, 0, none⟩), .pointer (some ⟨w.heap.size + 1 + 1 + 1, 0, none⟩), .pointer pa, .pointer (some ⟨eb, 0, none⟩), .pointer (some ⟨eb + 1 + 1, 0, none⟩), args[0]?.getD undef, args[1]?.getD undef, .tuple #[.pointer pa, .int .i64 0], .agg #[.string (sb f.name), .int .i64 f.deadline, .int .i64 f.priority, .slice A f.tasks.length c], .tuple #[.pointer pa, .int .i64 0], .pointer pa, .int .i64 0, .int .i64 0, .bool false, undef, .pointer pa, .int .i64 f.tasks.length, .slice (some ⟨eb + 1, 0, none⟩) f.tasks.length f.tasks.length, .pointer pa, .func (.func 51) #[] #[.pointer (some ⟨eb + 1 + 1 + 1, 0, none⟩)], args[0]?.getD undef, args[1]?.getD undef, undef, undef, undef, undef, undef, undef, undef, undef, undef, undef, undef, undef, undef, undef, undef, undef, undef, undef, undef, undef, undef, undef], defers := [] }) ?assign ?body ?done ?stop)
  case oi =>
    rintro pre X Y ⟨xs, h1, h2, h3, h4, h5, h6, h7⟩ hb
    have hz := HZ8.out
    exact ⟨xs, h1, Lib.hid (h2.out.keep fun b e => by
      have e2 : eb + 1 = b := by injection e
      exact hb.block b (by omega)), Lib.hid ((hb.block _ (by omega)).trans h3.out), Lib.hid ((hb.block _ (by omega)).trans h4.out), Lib.hid ((hb.block _ (by omega)).trans h5.out), Lib.hid (h6.out.trans (hb.mono (by omega))), Lib.hid (Nat.le_trans h7.out hb.size)⟩
  case oix =>
    rintro cd pre X Y ⟨h1, h2, h3, h4, h5, h6⟩ hb
    have hz := HZ8.out
    have kp : ∀ (k : Nat) (v : Value), k < W8.heap.size → X.cell? ⟨k, 0, none⟩ = some v → Y.cell? ⟨k, 0, none⟩ = some v := fun k v hk hc => (hb.cell (p := ⟨k, 0, none⟩) hk).trans hc
    exact ⟨h1, h2, Lib.hid (kp _ _ (by omega) h3.out), Lib.hid (kp _ _ (by omega) h4.out), Lib.hid (kp _ _ (by omega) h5.out), Lib.hid (h6.out.trans (hb.mono (by omega)))⟩
  case ok =>
    rintro pre X ⟨xs, h1, h2, h3, h4, h5, h6, h7⟩
    have hg := HGR.out.below (w' := X) (by rw [HEB.out]; exact h6.out)
    have hc := Dag.blk_cell h5.out 0
    exact ⟨by simpa using hc, hg⟩
  case h0 => exact ⟨_, Lib.hid (UpK.start f.tasks (by simp)), HO8, HQ0, HQ2, HQ3, HB8, Lib.hid (Nat.le_refl _)⟩
  case assign =>
    rintro l2 pre x args X K ⟨_, A2, c2, rfl, _⟩ hK
    gi_wp2
    exact hK
  case body =>
    rintro l2 pre v args X ⟨xs, h1, h2, h3, h4, h5, h6, h7⟩ ⟨⟨post, hpost⟩, A2, c2, rfl, hI2⟩
    have hvl : v < f.tasks.length := by
      have : v ∈ (order (afterL f.tasks)).reverse := by rw [hpost]; simp
      exact (ord_all HFU.out v).1 (List.mem_reverse.1 this)
    have hsum := UpK.sum HFU.out HVA.out h1.out hpost hvl
    have hbd := UpK.bound HFU.out HVA.out h1.out hpost
    have hblt : ∀ u ∈ behL (afterL f.tasks) v, u < f.tasks.length := fun u hu => (rev_behind HFU.out HVA.out hpost hu).2.1
    obtain ⟨t, ht⟩ : ∃ t, f.tasks[v]? = some t := ⟨_, List.getElem?_eq_getElem hvl⟩
    have HBX := Lib.hid (blw HBW.out (by rw [HEB.out]; exact h6.out : Below w1.heap.size w1 X))
    obtain ⟨b, off, At, ct, eA, s0, s1, s2, s3, s4, s5, _⟩ := (H.out.below HBX.out).cells v t ht
    subst eA
    have hbw : b < w.heap.size := by
      obtain ⟨b', off', _, _, eA', s0', _⟩ := H.out.cells v t ht
      injection eA' with eA'
      injection eA' with eA'
      subst eA'
      exact World.block_lt_of_cell? w _ s0'
    have hgr := greatest_any xs f.tasks.length h1.out.len (behL (afterL f.tasks) v) _ rfl hblt X.drew (some ⟨eb + 1, 0, none⟩) A2 f.tasks.length c2 ((show Ints X _ _ xs from (Own1.sl h2.out).2).below (Below.refl _ X).drew) (hI2.below (Below.refl _ X).drew)
    obtain ⟨m, hm⟩ : ∃ m, maxL ((behL (afterL f.tasks) v).map (atL xs)) = m := ⟨_, rfl⟩
    rw [hm] at hgr hsum hbd
    have hwt := wtAt_some ht
    obtain ⟨aw, haw⟩ : ∃ aw, wgt t = aw := ⟨_, rfl⟩
    have hWt := fun (W : World) => weight_any t At ct W
    obtain ⟨hw0, hw1, _, _⟩ := HPO.out t (List.mem_of_getElem? ht)
    rw [haw] at hWt hwt hw0 hw1
    rw [hwt] at hsum
    obtain ⟨va, hva⟩ : ∃ va, Clk.addV [m, aw] = va := ⟨_, rfl⟩
    obtain ⟨ea, hea⟩ : ∃ ea, Clk.addE [m, aw] = ea := ⟨_, rfl⟩
    have HAD := Lib.hid fun (g : Nat) (W : World) (hc : W.cell? ⟨g, 0, none⟩ = some (.int .i64 aw)) => add1_any m aw g W hc va ea hva hea
    unfold maxT at hw1 hbd
    have hcase : (m + aw ≤ 1099511627775 ∧ va = m + aw ∧ ea = 0) ∨ (1099511627775 < m + aw ∧ va = 0 ∧ ea = 6) := by
      rcases Int.lt_or_le 1099511627775 (m + aw) with hlt | hle
      · have := (add_two hbd.1 hbd.2 hw0 hw1).2 hlt
        exact Or.inr ⟨hlt, hva.symm.trans this.1, hea.symm.trans this.2⟩
      · have := (add_two hbd.1 hbd.2 hw0 hw1).1 hle
        exact Or.inl ⟨hle, hva.symm.trans this.1, hea.symm.trans this.2⟩
    have cu := Dag.blk_cell h4.out 0
    have ce := Dag.blk_cell h3.out 0
    have fe := Dag.blk_frozen h3.out 0
    simp only [List.getElem?_toArray, List.getElem?_cons_zero] at cu ce
    obtain ⟨_, _, _, p3, _⟩ := flowO_cells ((h6.out.block _ (by omega)).trans HR0.out)
    have hmx : Tryd.prog.follows .mixedOrders = true := by kernel_rfl
    have HGRT := Lib.hid hgr; have HWT := Lib.hid hWt; have HSUM := Lib.hid hsum; have HCASE := Lib.hid hcase; have HPOST := Lib.hid hpost
    obtain ⟨QB, hQB⟩ : ∃ QB, QB = bodyB W8.heap.size (fun pre X => ∃ xs, Hid (UpK f.tasks pre xs) ∧ Hid (Own1 X (eb + 1) 3 (.slice (some ⟨eb + 1, 0, none⟩) f.tasks.length f.tasks.length) (Dag.ints xs)) ∧ Hid (X.heap[eb]? = some (.cells #[.int .i64 0] 28 (0, 0))) ∧ Hid (X.heap[eb + 2]? = some (.cells #[.slice (some ⟨eb + 1, 0, none⟩) f.tasks.length f.tasks.length] 27 (0, 0))) ∧ Hid (X.heap[eb + 3]? = some (.cells #[.pointer pa] tg (0, 0))) ∧ Hid (Below eb w1 X) ∧ Hid (W8.heap.size ≤ X.heap.size))
      (fun cd pre X => Hid (cd = .ret) ∧ Hid (rankE f (upD f.tasks) = 6) ∧ Hid (X.cell? ⟨w.heap.size + 1, 0, none⟩ = some (.pointer none)) ∧ Hid (X.cell? ⟨w.heap.size + 2, 0, none⟩ = some (.slice none 0 0)) ∧ Hid (X.cell? ⟨w.heap.size + 3, 0, none⟩ = some (.int .i64 6)) ∧ Hid (Below w.heap.size w X)) (pre ++ [v]) X := ⟨_, rfl⟩
    rw [← hQB]
    have HQB := Lib.hid hQB
    have HQO : Hid (∀ a W, ¬ QB .outgrown a W) := Lib.hid fun a W hq => by rw [hQB] at hq; exact hq
    have HQP : Hid (∀ c a W, ¬ QB (.panic c) a W) := Lib.hid fun c a W hq => by rw [hQB] at hq; exact hq
    clear hQB hcase hsum hwt hbd hblt hva hea haw hpost hgr hWt hm hI2 ht
    gi_wp2_with fail
    rename_i K hKK
    refine wpIn_region_R (fun W => W.cell? ⟨eb + 2, 0, none⟩ = some (.slice (some ⟨eb + 1, 0, none⟩) f.tasks.length f.tasks.length) ∧ W.cell? ⟨w.heap.size, 3, none⟩ = some (.slice (some ⟨b, off, none⟩) f.tasks.length c) ∧ W.cell? ⟨b, off + v * 6, none⟩ = some (.string (sb t.name)) ∧ W.cell? ⟨b, off + v * 6 + 1, none⟩ = some (.int .i64 t.nodes) ∧ W.cell? ⟨b, off + v * 6 + 2, none⟩ = some (.int .i64 t.wall) ∧ W.cell? ⟨b, off + v * 6 + 3, none⟩ = some (.int .i64 t.retry) ∧ W.cell? ⟨b, off + v * 6 + 4, none⟩ = some (.bool t.done) ∧ W.cell? ⟨b, off + v * 6 + 5, none⟩ = some (.slice At t.after.length ct)) 19 hmx (by kernel_rfl) (fun ⟨a, W, hq⟩ => HQO.out a W hq) ?_
    refine wpAnyR_leadI (Q := Exit.then K (Exit.inBlock 1 QB)) (by kernel_rfl) (fun c a d u W hq => absurd hq (HQP.out c _ W)) ?hS [0, 1, 2, 3, 5, 6, 7, 8, 9] 10 _ _ (by kernel_rfl) ?_
    case hS => exact ⟨cu, p3, s0, s1, s2, s3, s4, s5⟩
    iterate 9 (refine wpLeadI_step (v := ?_) _ rfl (by rfl) ?_ ?_; rotate_left; (intro W hW; (try dsimp only at hW); go_simp; (try with_reducible rfl)); try simp only [Act.put, List.setIfInBounds_toArray])
    simp only [wpLeadI]
    refine wpAnyR_one (i := 4) rfl (by kernel_rfl) ?_
    intro K1 hK1
    go_simp
    refine HGRT.out.mono ?_
    rintro e w' ⟨rfl, rfl⟩
    refine hK1.out _ _ ⟨cu, p3, s0, s1, s2, s3, s4, s5⟩ ?_
    clear hK1 K1
    refine wpAnyR_one (i := 10) rfl (by kernel_rfl) ?_
    intro K1 hK1
    go_simp
    refine (HWT.out _).mono ?_
    rintro e x1 ⟨rfl, hb1⟩
    have k1 := kp_cell hb1 (show X.drew.cell? _ = _ from cu); have k2 := kp_cell hb1 (show X.drew.cell? _ = _ from p3); have t0 := kp_cell hb1 (show X.drew.cell? _ = _ from s0); have t1 := kp_cell hb1 (show X.drew.cell? _ = _ from s1); have t2 := kp_cell hb1 (show X.drew.cell? _ = _ from s2); have t3 := kp_cell hb1 (show X.drew.cell? _ = _ from s3); have t4 := kp_cell hb1 (show X.drew.cell? _ = _ from s4); have t5 := kp_cell hb1 (show X.drew.cell? _ = _ from s5)
    have HB1 : Hid (Below X.heap.size X x1) := Lib.hid ((Below.refl _ X).drew.trans hb1)
    refine hK1.out _ _ ⟨k1, k2, t0, t1, t2, t3, t4, t5⟩ ?_
    clear hK1 K1 hb1 cu p3 s0 s1 s2 s3 s4 s5 ce fe
    refine wpAnyR_one (i := 11) rfl (by kernel_rfl) ?_
    intro K1 hK1
    go_simp
    refine hK1.out _ _ ⟨kp_cell (al _ _) k1, kp_cell (al _ _) k2, kp_cell (al _ _) t0, kp_cell (al _ _) t1, kp_cell (al _ _) t2, kp_cell (al _ _) t3, kp_cell (al _ _) t4, kp_cell (al _ _) t5⟩ ?_
    clear hK1 K1
    have HB2 : Hid (Below X.heap.size X (x1.alloc (.cells #[.int .i64 aw] 3))) := Lib.hid (HB1.out.trans ((al _ _).mono HB1.out.size))
    have HAD2 := Lib.hid (HAD.out x1.heap.size (x1.alloc (.cells #[.int .i64 aw] 3)) (by simp))
    replace k1 := kp_cell (al x1 (.cells #[.int .i64 aw] 3)) k1
    replace k2 := kp_cell (al x1 (.cells #[.int .i64 aw] 3)) k2
    replace t0 := kp_cell (al x1 (.cells #[.int .i64 aw] 3)) t0
    replace t1 := kp_cell (al x1 (.cells #[.int .i64 aw] 3)) t1
    replace t2 := kp_cell (al x1 (.cells #[.int .i64 aw] 3)) t2
    replace t3 := kp_cell (al x1 (.cells #[.int .i64 aw] 3)) t3
    replace t4 := kp_cell (al x1 (.cells #[.int .i64 aw] 3)) t4
    replace t5 := kp_cell (al x1 (.cells #[.int .i64 aw] 3)) t5
    generalize x1.alloc (.cells #[.int .i64 aw] 3) = x2 at HB2 HAD2 k1 k2 t0 t1 t2 t3 t4 t5 ⊢
    generalize x1.heap.size = xg at HAD2 ⊢
    clear HB1
    refine wpAnyR_one (i := 12) rfl (by kernel_rfl) ?_
    intro K1 hK1
    go_simp
    refine HAD2.out.mono ?_
    rintro e x3 ⟨rfl, rfl⟩
    refine hK1.out _ _ ⟨k1, k2, t0, t1, t2, t3, t4, t5⟩ ?_
    clear hK1 K1
    have hvi : (v : Int) < (f.tasks.length : Int) := by omega
    refine wpAnyR_leadI (Q := Exit.then K (Exit.inBlock 1 QB)) (by kernel_rfl) (fun c a d u W hq => absurd hq (HQP.out c _ W)) ?hS2 [13, 14, 15, 16] 2 _ _ (by kernel_rfl) ?_
    case hS2 => exact ⟨k1, k2, t0, t1, t2, t3, t4, t5⟩
    iterate 4 (refine wpLeadI_step (v := ?_) _ rfl (by rfl) ?_ ?_; rotate_left; (intro W hW; (try dsimp only at hW); go_simp; (try with_reducible rfl)); try simp only [Act.put, List.setIfInBounds_toArray])
    simp only [wpLeadI]
    have HR2' := Lib.hid (h2.out.below HB2.out)
    obtain ⟨a0, hxa⟩ : ∃ a0, xs[v]? = some a0 := ⟨_, List.getElem?_eq_getElem (by rw [h1.out.len]; exact hvl)⟩
    obtain ⟨_, e1, _, _, cv, fv, _, hset⟩ := Own1.at_ HR2'.out (Dag.ints_get hxa)
    injection e1 with e1; injection e1 with e1; subst e1
    have ce := Dag.blk_cell ((HB2.out.block _ (Dag.blk_lt h3.out)).trans h3.out) 0
    have fe := Dag.blk_frozen ((HB2.out.block _ (Dag.blk_lt h3.out)).trans h3.out) 0
    simp only [List.getElem?_toArray, List.getElem?_cons_zero] at ce
    have HSET := Lib.hid hset
    have HXA := Lib.hid hxa
    clear hset hxa
    refine wpAnyR_one (i := 17) rfl (by kernel_rfl) ?_
    intro K1 hK1
    go_simp
    refine hK1.out _ _ ⟨set_other (by omega) k1, set_other (by omega) k2, set_other (by omega) t0, set_other (by omega) t1, set_other (by omega) t2, set_other (by omega) t3, set_other (by omega) t4, set_other (by omega) t5⟩ ?_
    clear hK1 K1
    refine wpAnyR_one (i := 18) rfl (by kernel_rfl) ?_
    intro K1 hK1
    go_simp
    refine hK1.out _ _ ⟨set_other (by omega) (set_other (by omega) k1), set_other (by omega) (set_other (by omega) k2), set_other (by omega) (set_other (by omega) t0), set_other (by omega) (set_other (by omega) t1), set_other (by omega) (set_other (by omega) t2), set_other (by omega) (set_other (by omega) t3), set_other (by omega) (set_other (by omega) t4), set_other (by omega) (set_other (by omega) t5)⟩ ?_
    clear hK1 K1 k1 k2 t0 t1 t2 t3 t4 t5
    refine ⟨by kernel_rfl, ?_⟩
    have HO3 : Hid (Own1 ((x2.setCell ⟨eb + 1, v, none⟩ (.int .i64 va)).setCell ⟨eb, 0, none⟩ (.int .i64 ea)) (eb + 1) 3 (.slice (some ⟨eb + 1, 0, none⟩) f.tasks.length f.tasks.length) (Dag.ints (xs.set v va))) := Lib.hid (by
      have h := HSET.out (.int .i64 va)
      rw [show (Dag.ints xs).set v (.int .i64 va) = Dag.ints (xs.set v va) from by unfold Dag.ints; rw [List.map_set]] at h
      exact h.keep fun b' e' => by
        have e2 : eb + 1 = b' := by injection e'
        exact Below.heap_setCell _ _ _ _ (by simp; omega))
    have oth : ∀ k, k ≠ eb → k ≠ eb + 1 → ((x2.setCell ⟨eb + 1, v, none⟩ (.int .i64 va)).setCell ⟨eb, 0, none⟩ (.int .i64 ea)).heap[k]? = x2.heap[k]? := fun k n1 n2 => by
      rw [Below.heap_setCell _ _ _ _ (by simp; omega), Below.heap_setCell _ _ _ _ (by simp; omega)]
    have HE3 : Hid (((x2.setCell ⟨eb + 1, v, none⟩ (.int .i64 va)).setCell ⟨eb, 0, none⟩ (.int .i64 ea)).heap[eb]? = some (.cells #[.int .i64 ea] 28 (0, 0))) := Lib.hid (set_box (y := .int .i64 0) (by
      rw [Below.heap_setCell _ _ _ _ (by simp)]
      exact (HB2.out.block _ (Dag.blk_lt h3.out)).trans h3.out))
    have HU3 : Hid (((x2.setCell ⟨eb + 1, v, none⟩ (.int .i64 va)).setCell ⟨eb, 0, none⟩ (.int .i64 ea)).heap[eb + 2]? = _) := Lib.hid ((oth _ (by omega) (by omega)).trans ((HB2.out.block _ (Dag.blk_lt h4.out)).trans h4.out))
    have HG3 : Hid (((x2.setCell ⟨eb + 1, v, none⟩ (.int .i64 va)).setCell ⟨eb, 0, none⟩ (.int .i64 ea)).heap[eb + 3]? = _) := Lib.hid ((oth _ (by omega) (by omega)).trans ((HB2.out.block _ (Dag.blk_lt h5.out)).trans h5.out))
    have hz8 := HZ8.out
    have hxe : eb ≤ X.heap.size := Nat.le_of_lt (Dag.blk_lt h3.out)
    have HB3 : Hid (Below eb w1 ((x2.setCell ⟨eb + 1, v, none⟩ (.int .i64 va)).setCell ⟨eb, 0, none⟩ (.int .i64 ea))) := Lib.hid (((h6.out.trans (HB2.out.mono hxe)).setCell (p := ⟨eb + 1, v, none⟩) (by simp) _).setCell (p := ⟨eb, 0, none⟩) (Nat.le_refl _) _)
    have HA3 : Hid (Above W8.heap.size X ((x2.setCell ⟨eb + 1, v, none⟩ (.int .i64 va)).setCell ⟨eb, 0, none⟩ (.int .i64 ea))) := Lib.hid (((Above.of_below HB2.out).setCell (p := ⟨eb + 1, v, none⟩) (by simp; omega) _).setCell (p := ⟨eb, 0, none⟩) (by simp; omega) _)
    have HS3 : Hid (W8.heap.size ≤ ((x2.setCell ⟨eb + 1, v, none⟩ (.int .i64 va)).setCell ⟨eb, 0, none⟩ (.int .i64 ea)).heap.size) := Lib.hid (Nat.le_trans h7.out HA3.out.size)
    clear oth HSET HXA ce fe cv fv HR2' HAD2 HB2
    generalize (x2.setCell ⟨eb + 1, v, none⟩ (.int .i64 va)).setCell ⟨eb, 0, none⟩ (.int .i64 ea) = X3 at HO3 HE3 HU3 HG3 HB3 HA3 HS3 ⊢
    have ce := Dag.blk_cell HE3.out 0
    simp only [List.getElem?_toArray, List.getElem?_cons_zero] at ce
    rcases HCASE.out with ⟨hle, rfl, rfl⟩ | ⟨hgt, rfl, rfl⟩
    · have hst := h1.out.step (v := v) (by rw [← HSUM.out]; unfold maxT; exact hle)
      rw [← HSUM.out] at hst
      have HST := Lib.hid hst
      clear hst hle
      gi_wp2
      rw [HQB.out]
      exact ⟨HA3.out, _, HST, HO3, HE3, HU3, HG3, HB3, HS3⟩
    · have HE6 : Hid (rankE f (upD f.tasks) = 6) := Lib.hid (by
        unfold rankE
        rw [if_neg (fun e => e HX.out), if_neg]
        rw [up_over hvl (U := upD f.tasks) (by rw [← HSUM.out]; unfold maxT; exact hgt)]
        decide)
      have r1 := (HB3.out.block _ (by omega)).trans HR1.out
      have r2 := (HB3.out.block _ (by omega)).trans HR2.out
      have r3 := (HB3.out.block _ (by omega)).trans HR3.out
      obtain ⟨g0, g1, g2, gb, _⟩ := store3 (W := X3) (B := w.heap.size) (x0 := .pointer none) (x1 := .slice none 0 0) (x2 := .int .i64 6) r1 r2 r3 (by omega) (by omega) (by omega) (by omega) (by omega) (by omega)
      have hW1 : Below w.heap.size w X3 := HBW.out.trans (HB3.out.mono (by have := HBW.out.size; omega))
      have G0 := Lib.hid g0; have G1 := Lib.hid g1; have G2 := Lib.hid g2; have GB := Lib.hid (hW1.trans gb)
      have GA : Hid (Above W8.heap.size X (((X3.setCell ⟨w.heap.size + 1, 0, none⟩ (.pointer none)).setCell ⟨w.heap.size + 2, 0, none⟩ (.slice none 0 0)).setCell ⟨w.heap.size + 3, 0, none⟩ (.int .i64 6))) := Lib.hid (((HA3.out.setCell (p := ⟨w.heap.size + 1, 0, none⟩) (by simp; omega) _).setCell (p := ⟨w.heap.size + 2, 0, none⟩) (by simp; omega) _).setCell (p := ⟨w.heap.size + 3, 0, none⟩) (by simp; omega) _)
      have d1 := Dag.blk_cell r1 0; have d2 := Dag.blk_cell r2 0; have d3 := Dag.blk_cell r3 0
      have f1 := Dag.blk_frozen r1 0; have f2 := Dag.blk_frozen r2 0; have f3 := Dag.blk_frozen r3 0
      simp only [List.getElem?_toArray, List.getElem?_cons_zero] at d1 d2 d3
      clear g0 g1 g2 gb hW1 r1 r2 r3 hgt
      gi_wp2_with fail
      gi_region_with_o (fail)
      all_goals gi_wp2
      all_goals rw [HQB.out]
      all_goals exact ⟨⟨GA.out.size, GA.out.block⟩, Lib.hid rfl, HE6, Lib.hid G0.out, Lib.hid G1.out, Lib.hid G2.out, Lib.hid (by first | exact GB.out | exact GB.out.drew)⟩
  case done =>
    rintro D pre X hD hS ⟨xs, h1, h2, h3, h4, h5, h6, h7⟩ hdef
    subst hS
    have hz8 := HZ8.out
    obtain ⟨hok, hxs⟩ := UpK.fin HFU.out h1.out
    have hE : rankE f (upD f.tasks) = 0 := by unfold rankE; rw [if_neg (fun e => e HX.out), if_pos hok]
    have HE := Lib.hid hE
    have HV : Hid (rankV f (upD f.tasks) = xs) := Lib.hid (by unfold rankV; rw [if_pos hE, hxs])
    have HXN : Hid (xs.length = f.tasks.length) := Lib.hid h1.out.len
    have HDF := Lib.hid hdef
    have HDD : Hid (W8.heap.size ≤ D) := Lib.hid hD
    have HI2 := Lib.hid (show Ints X _ _ xs from (Own1.sl h2.out).2)
    have r1 := (h6.out.block _ (by omega)).trans HR1.out
    have r2 := (h6.out.block _ (by omega)).trans HR2.out
    have r3 := (h6.out.block _ (by omega)).trans HR3.out
    have hdw : D < X.heap.size := (Array.getElem?_eq_some_iff.1 hdef).1
    have hW1 : Below w.heap.size w X := HBW.out.trans (h6.out.mono (by have := HBW.out.size; omega))
    obtain ⟨g0, g1, g2, gb, gk⟩ := store3 (W := X) (B := w.heap.size) (x0 := .pointer pa) (x1 := .slice (some ⟨eb + 1, 0, none⟩) f.tasks.length f.tasks.length) (x2 := .int .i64 0) r1 r2 r3 (by omega) (by omega) (by omega) (by omega) (by omega) (by omega)
    have hgg : Gr X (afterL f.tasks) (.pointer pa) := HGR.out.below (w' := X) (by rw [HEB.out]; exact h6.out)
    have G0 := Lib.hid g0; have G1 := Lib.hid g1; have G2 := Lib.hid g2; have GB := Lib.hid (hW1.trans gb); have GK := Lib.hid gk
    have d1 := Dag.blk_cell r1 0; have d2 := Dag.blk_cell r2 0; have d3 := Dag.blk_cell r3 0
    have f1 := Dag.blk_frozen r1 0; have f2 := Dag.blk_frozen r2 0; have f3 := Dag.blk_frozen r3 0
    have cu := Dag.blk_cell h4.out 0
    simp only [List.getElem?_toArray, List.getElem?_cons_zero] at d1 d2 d3 cu
    clear hok hxs hE hdef hD g0 g1 g2 gb gk hW1 r1 r2 r3 h1 h2 h3 h4 h5
    go_wp2_with fail
    go_region
    all_goals go_wp2
    have hgn : Gr X (afterL f.tasks) (.pointer pa) := hgg
    refine leaves_marksB (base := w.heap.size) [D] _ ⟨List.nodup_cons.2 ⟨by simp, List.nodup_nil⟩, fun D' hD' => by obtain rfl := List.mem_singleton.1 hD'; exact (GK.out D' (by have := HDD.out; omega) (by have := HDD.out; omega) (by have := HDD.out; omega)).trans HDF.out⟩ (fun D' hD' => by obtain rfl := List.mem_singleton.1 hD'; have := HDD.out; omega) fun W' hB' hk hsz => ?_
    have hkk : ∀ k, k ≠ D → W'.heap[k]? = (((X.setCell ⟨w.heap.size + 1, 0, none⟩ (.pointer pa)).setCell ⟨w.heap.size + 2, 0, none⟩ (.slice (some ⟨eb + 1, 0, none⟩) f.tasks.length f.tasks.length)).setCell ⟨w.heap.size + 3, 0, none⟩ (.int .i64 0)).heap[k]? := fun k hne => hk k fun D' hD' => by obtain rfl := List.mem_singleton.1 hD'; exact hne
    have hdd := HDD.out
    have cc : ∀ (k : Nat) (v : Value), k ≠ D → (((X.setCell ⟨w.heap.size + 1, 0, none⟩ (.pointer pa)).setCell ⟨w.heap.size + 2, 0, none⟩ (.slice (some ⟨eb + 1, 0, none⟩) f.tasks.length f.tasks.length)).setCell ⟨w.heap.size + 3, 0, none⟩ (.int .i64 0)).cell? ⟨k, 0, none⟩ = some v → W'.cell? ⟨k, 0, none⟩ = some v := fun k v hne hc => by
      rw [World.cell?_of_block (w := (((X.setCell ⟨w.heap.size + 1, 0, none⟩ (.pointer pa)).setCell ⟨w.heap.size + 2, 0, none⟩ (.slice (some ⟨eb + 1, 0, none⟩) f.tasks.length f.tasks.length)).setCell ⟨w.heap.size + 3, 0, none⟩ (.int .i64 0))) (a := ⟨k, 0, none⟩) (hkk k hne)]; exact hc
    have hbx : ∀ k, k < eb + 4 → k ≠ w.heap.size + 1 → k ≠ w.heap.size + 2 → k ≠ w.heap.size + 3 → W'.heap[k]? = X.heap[k]? := fun k h1 n1 n2 n3 => (hkk k (by omega)).trans (GK.out k n1 n2 n3)
    refine ⟨_, results_3c rfl _ rfl rfl rfl (cc _ _ (by omega) G0.out) (cc _ _ (by omega) G1.out) (cc _ _ (by omega) G2.out), pa, some ⟨eb + 1, 0, none⟩, f.tasks.length, ?_, ?_, ?_, fun _ => ?_, fun e => absurd HE.out e⟩
    · rw [HV.out, HXN.out, HE.out]
    · rw [HV.out]
      refine ⟨fun k u hu => ?_, HI2.out.cap, HI2.out.top, HI2.out.nil⟩
      obtain ⟨b2, o2, e2, hc2⟩ := HI2.out.cells k u hu
      have e3 : b2 = eb + 1 := by injection e2 with e2; injection e2 with e2; exact e2.symm
      refine ⟨b2, o2, e2, ?_⟩
      rw [World.cell?_of_block (w := X) (a := ⟨b2, o2 + k, none⟩) (hbx b2 (by omega) (by omega) (by omega) (by omega))]
      exact hc2
    · exact (by first | exact GB.out | exact GB.out.drew : Below w.heap.size w _).trans hB'
    · refine HGF.out W' fun k h1 h2 => ?_
      rw [HEB.out] at h2
      exact (hbx k (by omega) (by omega) (by omega) (by omega)).trans (h6.out.block k h2)
  case stop =>
    rintro D cd pre X hD ⟨h1, h2, h3, h4, h5, h6⟩ hdef
    obtain rfl := h1.out
    have hz8 := HZ8.out
    have hwz := HBW.out.size
    gi_wp2_with fail
    refine leaves_marksB (base := w.heap.size) [D] X ⟨List.nodup_cons.2 ⟨by simp, List.nodup_nil⟩, fun D' hD' => by obtain rfl := List.mem_singleton.1 hD'; exact hdef⟩ (fun D' hD' => by obtain rfl := List.mem_singleton.1 hD'; omega) fun W' hB' hk hsz => ?_
    have cc : ∀ (k : Nat) (v : Value), k ≠ D → X.cell? ⟨k, 0, none⟩ = some v → W'.cell? ⟨k, 0, none⟩ = some v := fun k v hne hc => by
      rw [World.cell?_of_block (w := X) (a := ⟨k, 0, none⟩) (hk k fun D' hD' => by obtain rfl := List.mem_singleton.1 hD'; exact hne)]; exact hc
    exact ⟨_, results_3c rfl _ rfl rfl rfl (cc _ _ (by omega) h3.out) (cc _ _ (by omega) h4.out) (cc _ _ (by omega) h5.out), retR_err h2.out (by decide) (h6.out.trans hB')⟩
end Go.Proofs.YtaiolhanbjndcaaDoor

