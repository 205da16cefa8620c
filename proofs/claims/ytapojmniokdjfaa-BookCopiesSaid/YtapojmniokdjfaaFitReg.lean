/- Regions that draw their order, operation by operation, by number. No program. (As layers 6 to 8 have it, with nothing of theirs.) -/
import Derived.Test.YtapojmniokdjfaaRnkSeq
import Derived.OrdersHeld
import Derived.StillTail
import Derived.Deep.RegionHeld
namespace Go.Proofs.Ytapojmniokdjfaa.Ft
open Go.RowKit Go.Shelf
set_option linter.unusedVariables false
section
variable {P : Program} {ops : Array Oper} {Q : Exit → Act → World → Prop} {md : Region.Mode} {S : World → Prop} {n : Nat}

/-- whatever order is picked from here on; S holds behind each operation ahead of number n -/
def wpAnyR (P : Program) (md : Region.Mode) (ops : Array Oper) (Q : Exit → Act → World → Prop) (S : World → Prop) (n : Nat) : Nat → Array Bool → Act → World → Prop
  | 0, listed, a, w => Region.ready md ops listed = [] ∧ Q .normal a w
  | fuel + 1, listed, a, w =>
    (Region.ready md ops listed = [] → Q .normal a w) ∧
    ∀ i ∈ Region.ready md ops listed, wpOp P ops Q i (fun a' w' => (n ≤ i ∨ S w') ∧ wpAnyR P md ops Q S n fuel (listed.setIfInBounds i true) a' w') a w

theorem wpAny_of_R : ∀ (fuel : Nat) (listed : Array Bool) (a : Act) (w : World), wpAnyR P md ops Q S n fuel listed a w → wpAny P md ops Q fuel listed a w
  | 0, _, _, _, h => h
  | fuel + 1, _, _, _, h => ⟨h.1, fun i hi => wpOp_mono (fun a' w' h' => wpAny_of_R fuel _ a' w' h'.2) (h.2 i hi)⟩

theorem wpAnyR_first {i : Nat} {oi : Oper} {v : Value} (hi : ops[i]? = some oi) (hsel : ∀ (j : Nat) (o : Oper) cs b, ops[j]? = some o → o.op ≠ .select cs b)
    (hQ : ∀ c a w, Q (.panic c) (a.put oi.dst v) w → Q (.panic c) a w)
    (hl : ∀ j oj, ops[j]? = some oj → n ≤ j → ∃ e ∈ oj.after, Region.binds md e = true ∧ e.on = i) :
    ∀ (fuel : Nat) (listed : Array Bool) (a : Act) (w : World),
      (∀ j oj, ops[j]? = some oj → j ≠ i → listed.getD j true = false → (∀ e ∈ oj.after, Region.binds md e = true → e.on ≠ i) → oi.apart ops oj = true) →
      i ∈ Region.ready md ops listed → YieldsIf P ops S oi v a → S w →
      wpAnyR P md ops Q S n fuel (listed.setIfInBounds i true) (a.put oi.dst v) w → wpAnyR P md ops Q S n (fuel + 1) listed a w := by
  intro fuel
  induction fuel with
  | zero =>
    intro listed a w _ hr hy hS H
    refine ⟨fun h => (by rw [h] at hr; cases hr), fun j hj => ?_⟩
    by_cases hji : j = i
    · subst hji; exact hy.wpOp hi hS ⟨Or.inr hS, H⟩
    · have := ready_mono hj hji
      rw [H.1] at this
      cases this
  | succ fuel ih =>
    intro listed a w hfree hr hy hS H
    refine ⟨fun h => (by rw [h] at hr; cases hr), fun j hj => ?_⟩
    by_cases hji : j = i
    · subst hji; exact hy.wpOp hi hS ⟨Or.inr hS, H⟩
    · have h1 := H.2 j (ready_mono hj hji)
      obtain ⟨hjun, oj, hoj, hall⟩ := mem_ready.1 hj
      have hnot : ∀ e ∈ oj.after, Region.binds md e = true → e.on ≠ i := fun e he hb heq => by
        have h1 := hall e he hb
        have h0 := (mem_ready.1 hr).1
        rw [heq] at h1
        rcases Nat.lt_or_ge i listed.size with h' | h'
        · simp [h'] at h0 h1; rw [h0] at h1; cases h1
        · simp [Array.getElem?_eq_none h'] at h1
      have h2 := wpOp_putIf hoj (hfree j oj hoj hji hjun hnot) (fun cs b => hsel i oi cs b hi) (fun cs b => hsel j oj cs b hoj) hQ hy h1
      have hfree' : ∀ k ok, ops[k]? = some ok → k ≠ i → (listed.setIfInBounds j true).getD k true = false →
          (∀ e ∈ ok.after, Region.binds md e = true → e.on ≠ i) → oi.apart ops ok = true := fun k ok hk hki hun hno => by
        refine hfree k ok hk hki ?_ hno
        by_cases hjk : j = k
        · subst hjk; exact hjun
        · rw [getD_set_ne true hjk] at hun; exact hun
      refine wpOp_mono (fun a' w' h3 => ?_) h2
      have hS' : S w' := by
        rcases h3.2.1 with h | h
        · obtain ⟨e, he, hb, hon⟩ := hl j oj hoj h
          exact absurd hon (hnot e he hb)
        · exact h
      refine ⟨Or.inr hS', ih (listed.setIfInBounds j true) a' w' hfree' (ready_mono hr (Ne.symm hji)) h3.1 hS' ?_⟩
      rw [Array.setIfInBounds_comm _ _ hji]
      exact h3.2.2

/-- all from number n on wait for number i -/
def lateB (md : Region.Mode) (ops : Array Oper) (n i : Nat) : Bool := (List.range ops.size).all fun j => decide (j < n) || Region.waitsFor md ops j i
theorem lateB_spec {i : Nat} (h : lateB md ops n i = true) (j : Nat) (oj : Oper) (hj : ops[j]? = some oj) (hn : n ≤ j) : ∃ e ∈ oj.after, Region.binds md e = true ∧ e.on = i := by
  have h1 := List.all_eq_true.1 h j (List.mem_range.2 (Array.getElem?_eq_some_iff.1 hj).1)
  rw [show decide (j < n) = false from decide_eq_false (by omega), Bool.false_or] at h1
  obtain ⟨oj', hoj', e, he, hb, hon⟩ := Region.waitsFor_spec h1
  rw [hj] at hoj'
  injection hoj' with hoj'
  subst hoj'
  exact ⟨e, he, hb, hon⟩
theorem wpAnyR_take {i : Nat} {oi : Oper} {v : Value} {fuel : Nat} {listed : Array Bool} {a : Act} {w : World} (hi : ops[i]? = some oi)
    (hs : Region.noSelect ops = true) (hf : Region.free md ops listed i = true) (hr : (Region.ready md ops listed).contains i = true) (hl : lateB md ops n i = true)
    (hQ : ∀ c a w, Q (.panic c) (a.put oi.dst v) w → Q (.panic c) a w) (hy : YieldsIf P ops S oi v a) (hS : S w)
    (h : wpAnyR P md ops Q S n fuel (listed.setIfInBounds i true) (a.put oi.dst v) w) : wpAnyR P md ops Q S n (fuel + 1) listed a w :=
  wpAnyR_first hi (Region.noSelect_spec hs) hQ (lateB_spec hl) fuel listed a w (Region.free_spec hi hf) (by simpa using hr) hy hS h
/-- the only one that may come up -/
theorem wpAnyR_one {i : Nat} {oi : Oper} {fuel : Nat} {listed : Array Bool} {a : Act} {w : World} (hi : ops[i]? = some oi) (hr : Region.ready md ops listed = [i])
    (h : ∀ K : Act → World → Prop, Shut (∀ a' w', S w' → wpAnyR P md ops Q S n fuel (listed.setIfInBounds i true) a' w' → K a' w') → if Region.wanted oi (yielded ops a.tmps) = true then Oper.wp P oi a w K Q else K (a.put oi.dst undef) w) :
    wpAnyR P md ops Q S n (fuel + 1) listed a w := by
  refine ⟨fun h1 => (by rw [hr] at h1; cases h1), fun j hj => ?_⟩
  rw [hr] at hj
  have hji : j = i := by simpa using hj
  subst hji
  exact wpOp_step hi fun K' hK => h K' (fun a' w' hS hW => hK a' w' ⟨Or.inr hS, hW⟩)
/-- what is left goes in one order -/
theorem wpAnyR_seq : ∀ (l : List Oper) (k : Nat) (listed : Array Bool) (a : Act) (w : World), n ≤ k → (∀ j, l[j]? = ops[k + j]?) →
    Region.seqB md ops l.length k listed = true → wpList P ops Q l a w → wpAnyR P md ops Q S n l.length listed a w
  | [], _, _, _, _, _, _, hB, h => ⟨by simpa [Region.seqB] using hB, h⟩
  | o :: l, k, listed, a, w, hn, hl, hB, h => by
    have h0 : ops[k]? = some o := by simpa using (hl 0).symm
    simp only [List.length_cons, Region.seqB, Bool.and_eq_true, decide_eq_true_eq] at hB
    refine ⟨fun h1 => (by rw [hB.1] at h1; cases h1), fun i hi => ?_⟩
    rw [hB.1] at hi
    have hik : i = k := by simpa using hi
    subst hik
    have hw : wpOp P ops Q i (wpList P ops Q l) a w := by unfold wpOp; simp only [h0]; exact h
    exact wpOp_mono (fun a' w' h' => ⟨Or.inl hn, wpAnyR_seq l (i + 1) _ a' w' (by omega) (fun j => by have := hl (j + 1); simpa [Nat.add_assoc, Nat.add_comm 1 j] using this) hB.2 h'⟩) hw
theorem wp_region_R {id : Nat} {a : Act} {w : World} (S : World → Prop) (n : Nat) (hm : P.follows .mixedOrders = true) (h : wpAnyR P .any ops Q S n ops.size (Array.replicate ops.size false) a w.drew) : (Code.region id ops true).wp P Q a w :=
  wp_region_any hm (wpAny_of_R _ _ _ _ h)
/-- reads, by their numbers -/
def leadI (md : Region.Mode) (ops : Array Oper) (n : Nat) : List Nat → Array Bool → Bool
  | [], _ => true
  | i :: is, listed => (Region.ready md ops listed).contains i && (Region.free md ops listed i && (lateB md ops n i && leadI md ops n is (listed.setIfInBounds i true)))
def setI : List Nat → Array Bool → Array Bool
  | [], listed => listed
  | i :: is, listed => setI is (listed.setIfInBounds i true)
def wpLeadI (P : Program) (ops : Array Oper) (S : World → Prop) (L : Act → Prop) : List Nat → Act → Prop
  | [], a => L a
  | i :: is, a => ∃ o v, ops[i]? = some o ∧ YieldsIf P ops S o v a ∧ wpLeadI P ops S L is (a.put o.dst v)
theorem wpAnyR_leadI (hs : Region.noSelect ops = true) (hQ : ∀ c a d v w, Q (.panic c) (Act.put a d v) w → Q (.panic c) a w) {w : World} (hS : S w) : ∀ (is : List Nat) (g : Nat) (listed : Array Bool) (a : Act),
    leadI md ops n is listed = true → wpLeadI P ops S (fun a' => wpAnyR P md ops Q S n g (setI is listed) a' w) is a → wpAnyR P md ops Q S n (is.length + g) listed a w
  | [], g, listed, a, _, h => by simpa [wpLeadI, setI] using h
  | i :: is, g, listed, a, hB, h => by
    simp only [leadI, Bool.and_eq_true] at hB
    obtain ⟨b1, b2, b3, b4⟩ := hB
    obtain ⟨o, v, h0, hy, h⟩ := h
    rw [List.length_cons, show is.length + 1 + g = (is.length + g) + 1 from by omega]
    exact wpAnyR_take h0 hs b2 b1 b3 (fun c a w => hQ c a _ _ w) hy hS (wpAnyR_leadI hs hQ hS is g _ _ b4 h)
theorem wpLeadI_step {L : Act → Prop} {i : Nat} {is : List Nat} {a : Act} {v : Value} (o : Oper) (hi : ops[i]? = some o) (hw : Region.wanted o (yielded ops a.tmps) = true) (hy : ∀ w, S w → (execOp a.eval o).run P w = .ok (.value v) w) (h : wpLeadI P ops S L is (a.put o.dst v)) : wpLeadI P ops S L (i :: is) a := ⟨o, v, hi, Or.inl ⟨hw, hy⟩, h⟩
theorem wpAnyR_tail {ls : List Oper} {g n : Nat} {listed : Array Bool} {a : Act} {w : World} (hg : (ls.drop n).length = g) (hB : Region.seqB md ls.toArray g n listed = true) (h : wpList P ls.toArray Q (ls.drop n) a w) : wpAnyR P md ls.toArray Q S n g listed a w := by
  subst hg
  exact wpAnyR_seq (ls.drop n) n listed a w (Nat.le_refl _) (fun j => by rw [List.getElem?_drop, List.getElem?_toArray]) hB h
section
variable {L : Act → Prop} {i : Nat} {is : List Nat} {a : Act} {v : Value} {d : Tmp}
theorem wpLeadI_skip (o : Oper) (hi : ops[i]? = some o) (hd : o.dst = some d) (hw : Region.wanted o (yielded ops a.tmps) = false) (h : wpLeadI P ops S L is (a.put (some d) undef)) : wpLeadI P ops S L (i :: is) a := ⟨o, undef, hi, Or.inr ⟨hw, rfl⟩, by rw [hd]; exact h⟩
theorem wpLeadI_read (o : Oper) (hi : ops[i]? = some o) (hd : o.dst = some d) (hw : Region.wanted o (yielded ops a.tmps) = true) (hy : ∀ w, S w → (execOp a.eval o).run P w = .ok (.value v) w) (h : wpLeadI P ops S L is (a.put (some d) v)) : wpLeadI P ops S L (i :: is) a := ⟨o, v, hi, Or.inl ⟨hw, hy⟩, by rw [hd]; exact h⟩
end
end
end Go.Proofs.Ytapojmniokdjfaa.Ft

