/- Regions that draw their order, in a round of a range over a function: as everywhere else. -/
import Derived.Test.YtkicanegjkemoaaDoorRnkSeq
import Derived.Test.YtkicanegjkemoaaDoorFlwReg
import Derived.OrdersHeld
import Derived.OrdersIn
namespace Go.Proofs.YtkicanegjkemoaaDoor
open Go.RowKit Go.Shelf
set_option linter.unusedVariables false
section
variable {P : Program} {ops : Array Oper} {Q : Exit → Act → World → Prop} {md : Region.Mode} {S : World → Prop} {l n : Nat}

def noDeferB (ops : Array Oper) : Bool := ops.all fun o => match o.op with
  | .defer _ => false
  | _ => true
theorem noDeferB_at {i : Nat} {o : Oper} (h : noDeferB ops = true) (hi : ops[i]? = some o) : ∀ c, o.op ≠ .defer c := by
  intro c e
  have h1 := Array.all_eq_true'.1 h o (Array.mem_of_getElem? hi)
  rw [e] at h1
  cases h1
theorem oper_in {o : Oper} {a : Act} {w : World} {K : Act → World → Prop} (hd : ∀ c, o.op ≠ .defer c) (h : o.wp P a w K Q) : o.wpIn (Fence.wide.inRound l) n P a w K Q := by
  refine ⟨fun _ _ => trivial, ?_⟩
  show o.uponIn (Fence.wide.inRound l) n P a K Q ((o.semAt (some l) a.eval).run P w)
  rw [Oper.semAt_some l a.eval o hd]
  unfold Oper.wp at h
  generalize (execOp a.eval o).run P w = r at *
  cases r with
  | ok x w' =>
    cases x with
    | value v => exact h
    | skip => exact h
    | defer d => exact h
    | enter f args => exact ⟨(fun h => by cases h), CallsIn.inRound l ((callsIn_wide.2 h).mono fun e w'' he => by cases e <;> exact he)⟩
    | row row args => exact ⟨(fun h => by cases h), fun c cs _ => let ⟨v, w', r, s⟩ := h c cs; ⟨v, w', r, stepsIn_wide.2 s⟩⟩
    | _ => exact h.elim
  | halt x w' => cases x <;> exact h
theorem wpAny_in (hd : noDeferB ops = true) (hQ : ¬ LetsOut Q) : ∀ (fuel : Nat) (listed : Array Bool) (a : Act) (w : World), wpAny P md ops Q fuel listed a w → wpAnyIn (Fence.wide.inRound l) n P md ops Q fuel listed a w
  | 0, _, _, _, h => h
  | fuel + 1, listed, a, w, h => ⟨h.1, fun i hi => by
    have h1 := h.2 i hi
    unfold wpOp at h1
    unfold wpOpIn
    cases ho : ops[i]? with
    | none => simp only [ho] at h1 ⊢; exact wpAny_in hd hQ fuel _ _ _ h1
    | some o =>
      simp only [ho] at h1 ⊢
      by_cases hw : Region.wanted o (yielded ops a.tmps) = true
      · rw [if_pos hw] at h1 ⊢
        rcases h1 with h1 | h1
        · exact Oper.wpIn_mono (fun a' w' h' => wpAny_in hd hQ fuel _ a' w' h') (oper_in (noDeferB_at hd ho) h1)
        · exact absurd h1.2 hQ
      · rw [if_neg hw] at h1 ⊢
        exact ⟨fun _ _ => trivial, wpAny_in hd hQ fuel _ _ _ h1⟩⟩
theorem wpIn_region_held {id : Nat} {a : Act} {w : World} (S : World → Prop) (hm : P.follows .mixedOrders = true) (hd : noDeferB ops = true) (hQ : ¬ LetsOut Q)
    (h : wpAnyH P .any ops Q S ops.size (Array.replicate ops.size false) a w.drew) : (Code.region id ops true).wpIn (Fence.wide.inRound l) n P Q a w :=
  wpIn_region_any hm (wpAny_in hd hQ _ _ _ _ (wpAny_of_held _ _ _ _ h))
/-- a read, taken first -/
theorem wpAnyH_read {i : Nat} (oi : Oper) {v : Value} {fuel : Nat} {listed : Array Bool} {a : Act} {w : World} (hi : ops[i]? = some oi)
    (hs : Region.noSelect ops = true) (hf : Region.free md ops listed i = true) (hr : (Region.ready md ops listed).contains i = true)
    (hQ : ∀ c a w, Q (.panic c) (a.put oi.dst v) w → Q (.panic c) a w) (hS : S w) (hw : Region.wanted oi (yielded ops a.tmps) = true) (hy : ∀ w, S w → (execOp a.eval oi).run P w = .ok (.value v) w)
    (h : wpAnyH P md ops Q S fuel (listed.setIfInBounds i true) (a.put oi.dst v) w) : wpAnyH P md ops Q S (fuel + 1) listed a w :=
  wpAnyH_take hi hs hf hr hQ (Or.inl ⟨hw, hy⟩) hS h
/-- the only one that may come up -/
theorem wpAnyH_one {i : Nat} (oi : Oper) {fuel : Nat} {listed : Array Bool} {a : Act} {w : World} (hi : ops[i]? = some oi) (hr : Region.ready md ops listed = [i])
    (h : ∀ K : Act → World → Prop, Shut (∀ a' w', S w' → wpAnyH P md ops Q S fuel (listed.setIfInBounds i true) a' w' → K a' w') → if Region.wanted oi (yielded ops a.tmps) = true then Oper.wp P oi a w K Q else K (a.put oi.dst undef) w) :
    wpAnyH P md ops Q S (fuel + 1) listed a w := by
  refine ⟨fun h1 => (by rw [hr] at h1; cases h1), fun j hj => ?_⟩
  rw [hr] at hj
  have hji : j = i := by simpa using hj
  subst hji
  exact wpOp_step hi fun K' hK => h K' (fun a' w' hS hW => hK a' w' ⟨hS, hW⟩)
theorem wpIn_region_R {id k : Nat} {a : Act} {w : World} (S : World → Prop) (n : Nat) (hm : P.follows .mixedOrders = true) (hd : noDeferB ops = true) (hQ : ¬ LetsOut Q)
    (h : wpAnyR P .any ops Q S n ops.size (Array.replicate ops.size false) a w.drew) : (Code.region id ops true).wpIn (Fence.wide.inRound l) k P Q a w :=
  wpIn_region_any hm (wpAny_in hd hQ _ _ _ _ (wpAny_of_R _ _ _ _ h))
/-- reads, by their numbers -/
def leadI (md : Region.Mode) (ops : Array Oper) (n : Nat) : List Nat → Array Bool → Bool
  | [], _ => true
  | i :: is, listed => (Region.ready md ops listed).contains i && (Region.free md ops listed i && (lateB md ops n i && leadI md ops n is (listed.setIfInBounds i true)))
def setI : List Nat → Array Bool → Array Bool
  | [], listed => listed
  | i :: is, listed => setI is (listed.setIfInBounds i true)
def wpLeadI (P : Program) (ops : Array Oper) (S : World → Prop) (L : Act → Prop) : List Nat → Act → Prop
  | [], a => L a
  | i :: is, a => ∃ o v, ops[i]? = some o ∧ YieldsIf P ops S o v a ∧ wpLeadI P ops S L is (a.put o.dst v)
theorem wpAnyR_leadI (hs : Region.noSelect ops = true) (hQ : ∀ c a d v w, Q (.panic c) (Act.put a d v) w → Q (.panic c) a w) {w : World} (hS : S w) : ∀ (is : List Nat) (g : Nat) (listed : Array Bool) (a : Act),
    leadI md ops n is listed = true → wpLeadI P ops S (fun a' => wpAnyR P md ops Q S n g (setI is listed) a' w) is a → wpAnyR P md ops Q S n (is.length + g) listed a w
  | [], g, listed, a, _, h => by simpa [wpLeadI, setI] using h
  | i :: is, g, listed, a, hB, h => by
    simp only [leadI, Bool.and_eq_true] at hB
    obtain ⟨b1, b2, b3, b4⟩ := hB
    obtain ⟨o, v, h0, hy, h⟩ := h
    rw [List.length_cons, show is.length + 1 + g = (is.length + g) + 1 from by omega]
    exact wpAnyR_take h0 hs b2 b1 b3 (fun c a w => hQ c a _ _ w) hy hS (wpAnyR_leadI hs hQ hS is g _ _ b4 h)
theorem wpLeadI_step {L : Act → Prop} {i : Nat} {is : List Nat} {a : Act} {v : Value} (o : Oper) (hi : ops[i]? = some o) (hw : Region.wanted o (yielded ops a.tmps) = true) (hy : ∀ w, S w → (execOp a.eval o).run P w = .ok (.value v) w) (h : wpLeadI P ops S L is (a.put o.dst v)) : wpLeadI P ops S L (i :: is) a := ⟨o, v, hi, Or.inl ⟨hw, hy⟩, h⟩
theorem wpAnyR_tail {ls : List Oper} {g n : Nat} {listed : Array Bool} {a : Act} {w : World} (hg : (ls.drop n).length = g) (hB : Region.seqB md ls.toArray g n listed = true) (h : wpList P ls.toArray Q (ls.drop n) a w) : wpAnyR P md ls.toArray Q S n g listed a w := by
  subst hg
  exact wpAnyR_seq (ls.drop n) n listed a w (Nat.le_refl _) (fun j => by rw [List.getElem?_drop, List.getElem?_toArray]) hB h
end
theorem bodyB_out {α : Type} {B : Nat} {I : List α → World → Prop} {Ix : Code → List α → World → Prop} {pre : List α} {W : World} : ¬ LetsOut (bodyB B I Ix pre W) := fun ⟨_, _, h⟩ => h
end Go.Proofs.YtkicanegjkemoaaDoor

