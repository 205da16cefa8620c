/- Regions that draw their order: reads, then a call and, ahead of it or behind it, a new struct; behind both what waits for all of these. -/
import Derived.Test.YtkcijibkloamkaaGreatDoorFlwRead
namespace Go.Proofs.YtkcijibkloamkaaGreatDoor
set_option linter.unusedVariables false

section
variable {P : Program} {ops : Array Oper} {Q : Exit → Act → World → Prop} {md : Region.Mode} {S : World → Prop} {n : Nat}
/-- one of two comes up -/
theorem wpAnyR_two {i j : Nat} {oi oj : Oper} {fuel : Nat} {listed : Array Bool} {a : Act} {w : World} (hi : ops[i]? = some oi) (hj : ops[j]? = some oj) (hr : Region.ready md ops listed = [i, j])
    (h1 : ∀ K : Act → World → Prop, Shut (∀ a' w', S w' → wpAnyR P md ops Q S n fuel (listed.setIfInBounds i true) a' w' → K a' w') → if Region.wanted oi (yielded ops a.tmps) = true then Oper.wp P oi a w K Q else K (a.put oi.dst undef) w)
    (h2 : ∀ K : Act → World → Prop, Shut (∀ a' w', S w' → wpAnyR P md ops Q S n fuel (listed.setIfInBounds j true) a' w' → K a' w') → if Region.wanted oj (yielded ops a.tmps) = true then Oper.wp P oj a w K Q else K (a.put oj.dst undef) w) :
    wpAnyR P md ops Q S n (fuel + 1) listed a w := by
  refine ⟨fun h => (by rw [hr] at h; cases h), fun k hk => ?_⟩
  rw [hr] at hk
  rcases List.mem_cons.1 hk with e | hk
  · subst e
    exact wpOp_step hi fun K' hK => h1 K' (fun a' w' hS hW => hK a' w' ⟨Or.inr hS, hW⟩)
  · have e : k = j := by simpa using hk
    subst e
    exact wpOp_step hj fun K' hK => h2 K' (fun a' w' hS hW => hK a' w' ⟨Or.inr hS, hW⟩)
def forkB (ops : Array Oper) (m q : Nat) : Bool :=
  let n := ops.size
  let L1 := setAll m 0 (Array.replicate n false)
  let LA := L1.setIfInBounds m true
  let LA2 := setAll (q - (m + 1)) (m + 1) LA
  let LB := (L1.setIfInBounds q true).setIfInBounds m true
  let LB2 := setAll (q - (m + 1)) (m + 1) LB
  Region.noSelect ops && (decide (m < q) && (decide (q < n) && (leadB .any ops n m 0 (Array.replicate n false) && (decide (Region.ready .any ops L1 = [m, q]) &&
    (leadB .any ops n (q - (m + 1)) (m + 1) LA && (midB .any ops (n - q) q LA2 && (decide (Region.ready .any ops (setAll (n - q) q LA2) = []) &&
      (decide (Region.ready .any ops (L1.setIfInBounds q true) = [m]) && (leadB .any ops n (q - (m + 1)) (m + 1) LB && (midB .any ops (n - (q + 1)) (q + 1) LB2 && decide (Region.ready .any ops (setAll (n - (q + 1)) (q + 1) LB2) = [])))))))))))
theorem mid_mono {L L' : Act → World → Prop} (hL : ∀ a w, L a w → L' a w) : ∀ (p : List Oper) (a : Act) (w : World), wpMid P ops Q S L p a w → wpMid P ops Q S L' p a w
  | [], a, w, h => hL a w h
  | o :: p, a, w, h => fun K hK => h K fun a' w' hS' hW => hK.out a' w' hS' (mid_mono hL p _ _ hW)
theorem lead_mono {L L' : Act → Prop} (hL : ∀ a, L a → L' a) : ∀ (p : List Oper) (a : Act), wpLead P ops S L p a → wpLead P ops S L' p a
  | [], a, h => hL a h
  | o :: p, a, ⟨v, hy, h⟩ => ⟨v, hy, lead_mono hL p _ h⟩
/-- reads; a call and a new struct, either one ahead of the other; reads; what waits for these -/
theorem wp_region_fork {l : List Oper} {id : Nat} {a : Act} {w : World} (S : World → Prop) (m q : Nat) (oc oa : Oper) (hoc : l[m]? = some oc) (hoa : l[q]? = some oa) (hm : P.follows .mixedOrders = true) (hB : forkB l.toArray m q = true)
    (hQ : ∀ c a d v w, Q (.panic c) (Act.put a d v) w → Q (.panic c) a w) (hS : S w.drew)
    (h : wpLead P l.toArray S (fun a' =>
      (∀ K : Act → World → Prop, Shut (∀ a1 w1, S w1 → wpLead P l.toArray S (fun a2 => wpMid P l.toArray Q S (fun a3 w3 => Q .normal a3 w3) (l.drop q) a2 w1) ((l.take q).drop (m + 1)) a1 → K a1 w1) →
        if Region.wanted oc (yielded l.toArray a'.tmps) = true then Oper.wp P oc a' w.drew K Q else K (a'.put oc.dst undef) w.drew) ∧
      (∀ K : Act → World → Prop, Shut (∀ a1 w1, S w1 → (∀ K2 : Act → World → Prop, Shut (∀ a2 w2, S w2 → wpLead P l.toArray S (fun a3 => wpMid P l.toArray Q S (fun a4 w4 => Q .normal a4 w4) (l.drop (q + 1)) a3 w2) ((l.take q).drop (m + 1)) a2 → K2 a2 w2) →
          if Region.wanted oc (yielded l.toArray a1.tmps) = true then Oper.wp P oc a1 w1 K2 Q else K2 (a1.put oc.dst undef) w1) → K a1 w1) →
        if Region.wanted oa (yielded l.toArray a'.tmps) = true then Oper.wp P oa a' w.drew K Q else K (a'.put oa.dst undef) w.drew)) (l.take m) a) : (Code.region id l.toArray true).wp P Q a w := by
  simp only [forkB, Bool.and_eq_true, decide_eq_true_eq, List.size_toArray] at hB
  obtain ⟨b0, b1, b2, b3, b4, b5, b6, b7, b8, b9, b10, b11⟩ := hB
  have e1 : (l.take m).length = m := by rw [List.length_take]; omega
  have e2 : ((l.take q).drop (m + 1)).length = q - (m + 1) := by rw [List.length_drop, List.length_take]; omega
  have e3 : (l.drop q).length = l.length - q := List.length_drop
  have e4 : (l.drop (q + 1)).length = l.length - (q + 1) := List.length_drop
  have hoc' : l.toArray[m]? = some oc := by rw [List.getElem?_toArray]; exact hoc
  have hoa' : l.toArray[q]? = some oa := by rw [List.getElem?_toArray]; exact hoa
  have g2 : ∀ j, j < ((l.take q).drop (m + 1)).length → ((l.take q).drop (m + 1))[j]? = l.toArray[m + 1 + j]? := fun j hj => by
    rw [e2] at hj; rw [List.getElem?_drop, List.getElem?_take, if_pos (by omega), List.getElem?_toArray]
  have g3 : ∀ k j, j < (l.drop k).length → (l.drop k)[j]? = l.toArray[k + j]? := fun k j _ => by rw [List.getElem?_drop, List.getElem?_toArray]
  refine wp_region_R S l.length hm ?_
  rw [List.size_toArray]
  have hsz : l.length = (l.take m).length + ((((l.take q).drop (m + 1)).length + ((l.drop q).length + 0)) + 1) := by rw [e1, e2, e3]; omega
  conv => arg 7; rw [hsz]
  refine wpAnyR_lead b0 hQ hS (l.take m) 0 _ _ a (fun j hj => by rw [e1] at hj; rw [List.getElem?_take, if_pos hj, List.getElem?_toArray, Nat.zero_add]) (by rw [e1]; exact b3) ?_
  refine lead_mono (fun a' h => ?_) _ _ h
  rw [e1]
  refine wpAnyR_two hoc' hoa' b4 (fun K hK => h.1 K fun a1 w1 hS1 hW => hK.out a1 w1 hS1 ?_) (fun K hK => h.2 K fun a1 w1 hS1 hW => hK.out a1 w1 hS1 ?_)
  · refine wpAnyR_lead b0 hQ hS1 ((l.take q).drop (m + 1)) (m + 1) _ _ a1 g2 (by rw [e2]; exact b5) ?_
    refine lead_mono (fun a2 h2 => ?_) _ _ hW
    rw [e2]
    refine wpAnyR_mid (l.drop q) q 0 _ a2 w1 (g3 q) (by rw [e3]; exact b6) ?_
    refine mid_mono (fun a3 w3 h3 => ⟨by rw [e3]; exact b7, h3⟩) _ _ _ h2
  · have hq2 : (((l.take q).drop (m + 1)).length + ((l.drop q).length + 0)) = (((l.take q).drop (m + 1)).length + ((l.drop (q + 1)).length + 0)) + 1 := by rw [e2, e3, e4]; omega
    rw [hq2]
    refine wpAnyR_one hoc' b8 fun K2 hK2 => hW K2 fun a2 w2 hS2 hW2 => hK2.out a2 w2 hS2 ?_
    refine wpAnyR_lead b0 hQ hS2 ((l.take q).drop (m + 1)) (m + 1) _ _ a2 g2 (by rw [e2]; exact b9) ?_
    refine lead_mono (fun a3 h3 => ?_) _ _ hW2
    rw [e2]
    refine wpAnyR_mid (l.drop (q + 1)) (q + 1) 0 _ a3 w2 (g3 (q + 1)) (by rw [e4]; exact b10) ?_
    refine mid_mono (fun a4 w4 h4 => ⟨by rw [e4]; exact b11, h4⟩) _ _ _ h3
end
theorem putA_of {w : World} {b : Nat} {cs cur : Array Value} {t : TypeId} (hb : w.heap[b]? = some (Obj.cells cur t (0, 0))) (hs : cur.size = cs.size) : PutA w (w.setCells b 0 cs.toList) b cs t := by
  obtain ⟨cur', e1, e2, e3⟩ := setCells_blk b t cs.toList 0 w cur hb (by simp; omega)
  refine ⟨?_, fun k hk => setCells_other b _ _ w k hk, setCells_rest b _ _ w⟩
  have : cur' = cs := by
    apply Array.ext_getElem?
    intro j
    rw [e3 j]
    by_cases hj : j < cs.size
    · rw [if_pos (by simp; omega)]; simp
    · rw [if_neg (by simp; omega), Array.getElem?_eq_none (by omega), Array.getElem?_eq_none (by omega)]
  subst this; exact e1
/-- a struct stored over a block, in such a region -/
theorem step_storeA {ops : Array Oper} {o : Oper} {a : Act} {w : World} {K : Act → World → Prop} {Q : Exit → Act → World → Prop} {E : Prop} (hgd : o.guard = none) (ty : TypeId) (x y : Operand) (ho : o.op = .store ty x y)
    (b : Nat) (cs cur : Array Value) (t : TypeId) (hx : a.eval x = .pointer (some ⟨b, 0, none⟩)) (hy : a.eval y = .agg cs) (hb : w.heap[b]? = some (Obj.cells cur t (0, 0))) (hs : cur.size = cs.size) (hi : (Tryz.prog.info? ty).map (·.size) = some cs.size) (h1 : cs.all (·.oneCell') = true)
    (h : ∀ w', PutA w w' b cs t → K (a.put o.dst undef) w') : if Region.wanted o (yielded ops a.tmps) = true then Oper.wp Tryz.prog o a w K Q else E := by
  rw [if_pos (by simp [Region.wanted, hgd])]
  refine wp_store_mid ty x y ho b 0 cs hx hy (fun j hj => ?_) hi h1 (h _ (putA_of hb hs))
  rw [Nat.zero_add]
  refine ⟨?_, Dag.blk_frozen hb j⟩
  rw [Dag.blk_cell hb j, Array.getElem?_eq_getElem (by omega)]; rfl

end Go.Proofs.YtkcijibkloamkaaGreatDoor

