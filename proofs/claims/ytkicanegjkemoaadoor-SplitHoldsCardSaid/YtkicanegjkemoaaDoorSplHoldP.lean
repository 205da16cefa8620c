/- Layer 8 in plain words: windows hold. No program. -/
import Derived.Test.YtkicanegjkemoaaDoorSplPure
namespace Go.Proofs.YtkicanegjkemoaaDoor
open Dag (num num_mem num_len Ord order befL behL bef_mem beh_mem order_ord arc arc_iff row_some)
set_option linter.unusedVariables false

theorem after_bef {ts : List TaskD} (hV : Dag.Valid (afterL ts)) {v : Nat} {t : TaskD} {u : Int} (ht : ts[v]? = some t) (hu : u ∈ t.after) : 0 ≤ u ∧ u.toNat < ts.length ∧ u.toNat ∈ befL (afterL ts) v := by
  have hm : t.after ∈ afterL ts := List.mem_map.2 ⟨t, List.mem_of_getElem? ht, rfl⟩
  have h1 := hV _ hm u hu
  rw [afterL_len] at h1
  refine ⟨h1.1, by omega, bef_mem.2 ⟨by rw [afterL_len]; omega, arc_iff.2 ?_⟩⟩
  rw [row_some (E := afterL ts) (l := t.after) (by unfold afterL; rw [List.getElem?_map, ht]; rfl), Int.toNat_of_nonneg h1.1]
  exact hu
theorem hold_of {f : FlowD} {W : Nat → WinD} (hc : checkE f = 0) (h1 : ∀ v, v < f.tasks.length → Clk.isT (W v).fr = true ∧ Clk.isT (W v).by_ = true ∧ (W v).fr + wtAt f.tasks v ≤ (W v).by_)
    (h2 : ∀ v u, u ∈ befL (afterL f.tasks) v → (W u).by_ + wtAt f.tasks v ≤ (W v).by_) : holdD f ((List.range f.tasks.length).map W) = true := by
  obtain ⟨_, hV, _⟩ := chk_facts hc
  unfold holdD
  rw [decide_eq_true hc, decide_eq_true (by simp), Bool.true_and, Bool.true_and, List.all_eq_true]
  intro v hv
  rw [List.mem_range, List.length_map, List.length_range] at hv
  obtain ⟨t, ht⟩ : ∃ t, f.tasks[v]? = some t := ⟨_, List.getElem?_eq_getElem hv⟩
  have e1 : ∀ u, u < f.tasks.length → ((List.range f.tasks.length).map W)[u]? = some (W u) := fun u hu => by rw [List.getElem?_map, List.getElem?_range hu]; rfl
  obtain ⟨a1, a2, a3⟩ := h1 v hv
  rw [wtAt_some ht] at a3
  unfold holdB
  rw [ht, e1 v hv]
  simp only [hold1, a1, a2, decide_eq_true a3, Bool.true_and, List.all_eq_true]
  intro u hu
  obtain ⟨b1, b2, b3⟩ := after_bef hV ht hu
  rw [e1 _ b2]
  have := h2 v _ b3
  rw [wtAt_some ht] at this
  exact decide_eq_true this

theorem win_facts {f : FlowD} {now by_ : Int} (h : winE f now by_ = 0) : RkOK f (lengthV f) ∧ 0 ≤ now ∧ by_ ≤ maxT ∧ now + lengthV f ≤ by_ ∧ checkE f = 0 := by
  obtain ⟨h1, h2, h3, h4⟩ := win_yes h
  obtain ⟨_, h5, _⟩ := ear_yes h3
  rw [isT_iff] at h1 h2
  exact ⟨rk_ok h5, h1.1, h2.2, h4, (rank_yes h5).1⟩
theorem win1_in {f : FlowD} {now by_ : Int} (h : winE f now by_ = 0) {v : Nat} (hv : v < f.tasks.length) : now ≤ (win1 f.tasks now by_ v).fr ∧ (win1 f.tasks now by_ v).by_ ≤ by_ ∧ (win1 f.tasks now by_ v).fr + wtAt f.tasks v ≤ (win1 f.tasks now by_ v).by_ := by
  obtain ⟨hr, h1, h2, h3, _⟩ := win_facts h
  have := hr.dn0 v hv; have := hr.up v hv; have := hr.sum v hv; have := hr.wt0 v
  unfold win1
  exact ⟨by simp only; omega, by simp only; omega, by simp only; omega⟩
theorem win_hold {f : FlowD} {now by_ : Int} (h : winE f now by_ = 0) : holdD f (winL f now by_) = true := by
  obtain ⟨hr, h1, h2, h3, hc⟩ := win_facts h
  unfold winL
  rw [if_pos h]
  unfold maxT at h2
  refine hold_of hc (fun v hv => ?_) fun v u hu => ?_
  · obtain ⟨a1, a2, a3⟩ := win1_in h hv
    have := hr.wt0 v
    exact ⟨isT_iff.2 ⟨by omega, by omega⟩, isT_iff.2 ⟨by omega, by omega⟩, a3⟩
  · have := hr.upg v u hu
    unfold win1
    simp only
    omega

theorem div_mono {a b L : Int} (hL : 0 ≤ L) (h : a ≤ b) : a / L ≤ b / L := by
  rcases Int.lt_or_eq_of_le hL with h0 | h0
  · exact Int.ediv_le_ediv h0 h
  · rw [← h0, Int.ediv_zero, Int.ediv_zero]; exact Int.le_refl _
section
variable {L G d w : Int} (h0 : 0 ≤ L) (hG : L ≤ G)
include h0 hG
theorem shr_mono {a b : Int} (h : a ≤ b) : a * G / L ≤ b * G / L := div_mono h0 (Int.mul_le_mul_of_nonneg_right h (by omega))
theorem shr_low (hd : 0 ≤ d) : 0 ≤ d * G / L := Int.ediv_nonneg (Int.mul_nonneg hd (by omega)) h0
theorem shr_high (hd : d ≤ L) : d * G / L ≤ G := by
  rcases Int.lt_or_eq_of_le h0 with h | h
  · have h1 : d * G ≤ L * G := Int.mul_le_mul_of_nonneg_right hd (by omega)
    have h2 := Int.ediv_le_ediv h h1
    rwa [Int.mul_ediv_cancel_left _ (by omega)] at h2
  · rw [← h, Int.ediv_zero]; omega
theorem shr_wide (hw : 0 ≤ w) (hwL : w ≤ L) : d * G / L + w ≤ (d + w) * G / L := by
  rcases Int.lt_or_eq_of_le h0 with h | h
  · have h1 : d * G + w * L ≤ (d + w) * G := by
      rw [Int.add_mul]
      have := Int.mul_le_mul_of_nonneg_left hG hw
      omega
    have h2 := Int.ediv_le_ediv h h1
    rwa [Int.add_mul_ediv_right _ _ (by omega)] at h2
  · subst h
    simp only [Int.ediv_zero]; omega
end
theorem shr1_in {f : FlowD} {now by_ : Int} (h : winE f now by_ = 0) {v : Nat} (hv : v < f.tasks.length) : now ≤ (shr1 f.tasks (lengthV f) now by_ v).fr ∧ (shr1 f.tasks (lengthV f) now by_ v).by_ ≤ by_ ∧ (shr1 f.tasks (lengthV f) now by_ v).fr + wtAt f.tasks v ≤ (shr1 f.tasks (lengthV f) now by_ v).by_ := by
  obtain ⟨hr, h1, h2, h3, _⟩ := win_facts h
  have a1 := hr.dn0 v hv; have a2 := hr.up v hv; have a3 := hr.sum v hv; have a4 := hr.wt0 v; have a5 := hr.low
  have hG : lengthV f ≤ by_ - now := by omega
  have b1 := shr_low a5 hG a1
  have b2 := shr_high a5 hG (d := dnD f.tasks v + wtAt f.tasks v) (by omega)
  have b3 := shr_wide a5 hG (d := dnD f.tasks v) a4 (by omega)
  unfold shr1
  exact ⟨by simp only; omega, by simp only; omega, by simp only; omega⟩
theorem shr1_after {f : FlowD} {now by_ : Int} (h : winE f now by_ = 0) {v u : Nat} (hu : u ∈ befL (afterL f.tasks) v) : (shr1 f.tasks (lengthV f) now by_ u).by_ ≤ (shr1 f.tasks (lengthV f) now by_ v).fr := by
  obtain ⟨hr, h1, h2, h3, _⟩ := win_facts h
  have hG : lengthV f ≤ by_ - now := by omega
  have := shr_mono hr.low hG (hr.dn v u hu)
  unfold shr1
  simp only
  omega
theorem shr_hold {f : FlowD} {now by_ : Int} (h : winE f now by_ = 0) : holdD f (shrL f now by_) = true := by
  obtain ⟨hr, h1, h2, h3, hc⟩ := win_facts h
  unfold shrL
  rw [if_pos h]
  unfold maxT at h2
  have hv2 : ∀ v u, u ∈ befL (afterL f.tasks) v → v < f.tasks.length := fun v u hu => by
    have := Dag.arc_lt (bef_mem.1 hu).2
    rwa [afterL_len] at this
  refine hold_of hc (fun v hv => ?_) fun v u hu => ?_
  · obtain ⟨a1, a2, a3⟩ := shr1_in h hv
    have := hr.wt0 v
    exact ⟨isT_iff.2 ⟨by omega, by omega⟩, isT_iff.2 ⟨by omega, by omega⟩, a3⟩
  · have e1 := shr1_after h hu
    obtain ⟨a1, a2, a3⟩ := shr1_in h (hv2 v u hu)
    omega
end Go.Proofs.YtkicanegjkemoaaDoor

