/- Layer 7: Widest, and sums of weights, by the program and by the document. -/
import Derived.Test.YtkicanegjkemoaaDoorRnkA
import Derived.Test.YtkicanegjkemoaaDoorClkB
import Derived.Test.YtkicanegjkemoaaDoorFlwTabs
namespace Go.Proofs.YtkicanegjkemoaaDoor
open Go.RowKit
open Dag (Ints Own1 Sl num num_len)
set_option linter.unusedVariables false
set_option maxRecDepth 100000

/-- the most nodes of what is not done -/
def nodesW (t : TaskD) : Int := if t.done = true then 0 else t.nodes
def widestD (ts : List TaskD) : Int := maxL (ts.map nodesW)
def widV (f : FlowD) : Int := if checkE f = 0 then widestD f.tasks else 0
theorem wid_snoc {ts : List TaskD} {k : Nat} {t : TaskD} (h : ts[k]? = some t) : widestD (ts.take (k + 1)) = max (widestD (ts.take k)) (nodesW t) := by
  unfold widestD
  rw [List.take_add_one, h, Option.toList_some, List.map_append, List.map_cons, List.map_nil, maxL_snoc]

/-! the sums -/
def timesW (area : Bool) (t : TaskD) : Int := if area = true then t.nodes else 1
def sumD (area : Bool) (ts : List TaskD) : Int := Clk.sumL (ts.map fun t => wgt t * timesW area t)
def sumE (area : Bool) (f : FlowD) : Int := if checkE f ≠ 0 then checkE f else if sumD area f.tasks ≤ maxT then 0 else 6
def sumV (area : Bool) (f : FlowD) : Int := if sumE area f = 0 then sumD area f.tasks else 0
theorem sum_snoc {area : Bool} {ts : List TaskD} {k : Nat} {t : TaskD} (h : ts[k]? = some t) : sumD area (ts.take (k + 1)) = sumD area (ts.take k) + wgt t * timesW area t := by
  unfold sumD
  rw [List.take_add_one, h, Option.toList_some, List.map_append, List.map_cons, List.map_nil, Clk.sumL_snoc]
theorem nums_wgt {f : FlowD} (hc : checkE f = 0) {t : TaskD} (ht : t ∈ f.tasks) (area : Bool) : 0 ≤ wgt t ∧ wgt t ≤ maxT ∧ 0 ≤ timesW area t ∧ timesW area t ≤ 10000 := by
  have hn : numbersOK f = true := by
    cases e : numbersOK f with
    | true => rfl
    | false =>
      unfold checkE at hc
      simp only [e, if_true] at hc
      split at hc <;> cases hc
  unfold numbersOK at hn
  simp only [Bool.and_eq_true, List.all_eq_true] at hn
  have h1 := hn.1 t ht
  unfold numsOK inR at h1
  simp only [Bool.and_eq_true, decide_eq_true_eq] at h1
  have hw : wgt t = 0 ∨ wgt t = t.wall := by unfold wgt; split; exact Or.inl rfl; exact Or.inr rfl
  refine ⟨by rcases hw with e | e <;> rw [e] <;> omega, by rcases hw with e | e <;> rw [e] <;> unfold maxT at * <;> omega, ?_, ?_⟩
  · unfold timesW; split <;> omega
  · unfold timesW; split <;> omega

theorem add1_any (t p : Int) (g : Nat) (w : World) (h : w.cell? ⟨g, 0, none⟩ = some (.int .i64 p)) (v e0 : Int) (hv : Clk.addV [t, p] = v) (he : Clk.addE [t, p] = e0) :
    Calls Tryd.prog 45 #[.int .i64 t, .slice (some ⟨g, 0, none⟩) 1 1] w fun e w' => e = .returned (.tuple #[.int .i64 v, .int .i64 e0]) ∧ w = w' := by
  subst hv he
  refine Clk.add_any t (some ⟨g, 0, none⟩) 1 [p] w (fun k x hx => ?_) (by simp [maxLen])
  match k, hx with
  | 0, hx =>
    simp at hx; subst hx
    exact ⟨g, 0, rfl, World.block_lt_of_cell? w _ h, h⟩
  | k + 1, hx => simp at hx
theorem add_two {t p : Int} (h0 : 0 ≤ t) (h1 : t ≤ 1099511627775) (h2 : 0 ≤ p) (h3 : p ≤ 1099511627775) : (t + p ≤ 1099511627775 → Clk.addV [t, p] = t + p ∧ Clk.addE [t, p] = 0) ∧ (1099511627775 < t + p → Clk.addV [t, p] = 0 ∧ Clk.addE [t, p] = 6) := by
  have ha : Clk.allT [t, p] = true := by simp [Clk.allT, Clk.isT_yes h0 h1, Clk.isT_yes h2 h3]
  have hs : Clk.sumL [t, p] = t + p := by simp [Clk.sumL]
  exact ⟨fun h => by have := Clk.add_yes ha (by rw [hs]; exact h); rwa [hs] at this, fun h => Clk.add_over ha (by rw [hs]; exact h)⟩
theorem sum_take_le {area : Bool} {ts : List TaskD} (h : ∀ t ∈ ts, 0 ≤ wgt t * timesW area t) (k : Nat) : sumD area (ts.take k) ≤ sumD area ts := by
  unfold sumD
  induction ts generalizing k with
  | nil => simp
  | cons t ts ih =>
    cases k with
    | zero =>
      have h1 := ih (fun u hu => h u (by simp [hu])) 0
      have h2 := h t (by simp)
      simp only [List.take_zero, List.map_nil, Clk.sumL, List.map_cons] at h1 ⊢
      omega
    | succ k =>
      have h1 := ih (fun u hu => h u (by simp [hu])) k
      simp only [List.take_succ_cons, List.map_cons, Clk.sumL]
      omega

end Go.Proofs.YtkicanegjkemoaaDoor

