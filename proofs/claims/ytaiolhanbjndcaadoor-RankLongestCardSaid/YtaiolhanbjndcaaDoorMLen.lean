/- Layer 8 in plain words: the windows of tasks up to a deadline. No program.
   Layer 7: Up, Length. -/
import Derived.Test.YtaiolhanbjndcaaDoorMUp
import Derived.Test.YtaiolhanbjndcaaDoorMRnk
namespace Go.Proofs.YtaiolhanbjndcaaDoor
open Dag (num num_mem num_len Ord order befL behL bef_mem beh_mem order_ord arc)
set_option linter.unusedVariables false

structure WinD where
  fr : Int
  by_ : Int

/-- by when all can be done, or why not -/
def earE (f : FlowD) (now : Int) : Int := if Clk.isT now = true then (if rankE f (upD f.tasks) = 0 then (if now + lengthV f ≤ maxT then 0 else 6) else rankE f (upD f.tasks)) else 2
def earV (f : FlowD) (now : Int) : Int := if earE f now = 0 then now + lengthV f else 0
/-- why there are no windows -/
def winE (f : FlowD) (now by_ : Int) : Int := if Clk.isT now = true ∧ Clk.isT by_ = true then (if earE f now = 0 then (if by_ < now + lengthV f then 60 else 0) else earE f now) else 2
def win1 (ts : List TaskD) (now by_ : Int) (v : Nat) : WinD := ⟨now + dnD ts v, by_ - (upD ts v - wtAt ts v)⟩
def shr1 (ts : List TaskD) (L now by_ : Int) (v : Nat) : WinD := ⟨now + dnD ts v * (by_ - now) / L, now + (dnD ts v + wtAt ts v) * (by_ - now) / L⟩
def winL (f : FlowD) (now by_ : Int) : List WinD := if winE f now by_ = 0 then (List.range f.tasks.length).map (win1 f.tasks now by_) else []
def shrL (f : FlowD) (now by_ : Int) : List WinD := if winE f now by_ = 0 then (List.range f.tasks.length).map (shr1 f.tasks (lengthV f) now by_) else []
def slk1 (ts : List TaskD) (now by_ : Int) (v : Nat) : Int := by_ - now - dnD ts v - upD ts v
def slkL (f : FlowD) (now by_ : Int) : List Int := if winE f now by_ = 0 then (List.range f.tasks.length).map (slk1 f.tasks now by_) else []
/-- do windows hold? -/
def hold1 (l : List WinD) (t : TaskD) (x : WinD) : Bool := Clk.isT x.fr && (Clk.isT x.by_ && (decide (x.fr + wgt t ≤ x.by_) && t.after.all fun u => match l[u.toNat]? with
  | some y => decide (y.by_ + wgt t ≤ x.by_)
  | none => true))
def holdB (l : List WinD) (ts : List TaskD) (k : Nat) : Bool := match ts[k]?, l[k]? with
  | some t, some x => hold1 l t x
  | _, _ => true
def holdD (f : FlowD) (l : List WinD) : Bool := decide (checkE f = 0) && (decide (l.length = f.tasks.length) && (List.range l.length).all (holdB l f.tasks))

theorem isT_iff {t : Int} : Clk.isT t = true ↔ 0 ≤ t ∧ t ≤ 1099511627775 := ⟨Clk.isT_bd, fun h => Clk.isT_yes h.1 h.2⟩
theorem rank_yes {f : FlowD} {U : Nat → Int} (h : rankE f U = 0) : checkE f = 0 ∧ okU f.tasks.length U = true := by
  unfold rankE at h
  by_cases hc : checkE f = 0
  · rw [if_neg (fun e => e hc)] at h
    refine ⟨hc, ?_⟩
    by_cases ho : okU f.tasks.length U = true
    · exact ho
    · rw [if_neg ho] at h; cases h
  · rw [if_pos hc] at h; exact absurd h hc
theorem lenV_yes {f : FlowD} (h : rankE f (upD f.tasks) = 0) : lengthV f = maxL (numsU f.tasks.length (upD f.tasks)) := by unfold lengthV rankV; rw [if_pos h]
theorem lenV_no {f : FlowD} (h : rankE f (upD f.tasks) ≠ 0) : lengthV f = 0 := by unfold lengthV rankV; rw [if_neg h]; rfl
theorem lenV_ge {f : FlowD} (h : rankE f (upD f.tasks) = 0) {v : Nat} (hv : v < f.tasks.length) : upD f.tasks v ≤ lengthV f := by
  rw [lenV_yes h]
  exact maxL_ge (List.mem_map.2 ⟨v, List.mem_range.2 hv, rfl⟩)
theorem lenV_bd (f : FlowD) : 0 ≤ lengthV f ∧ lengthV f ≤ maxT := by
  refine ⟨maxL_nonneg _, ?_⟩
  by_cases h : rankE f (upD f.tasks) = 0
  · rw [lenV_yes h]
    refine maxL_le (by decide) fun x hx => ?_
    obtain ⟨v, hv, rfl⟩ := List.mem_map.1 hx
    exact okU_iff.1 (rank_yes h).2 v (List.mem_range.1 hv)
  · rw [lenV_no h]; decide
section
variable {ts : List TaskD} (hf : (order (afterL ts)).length = ts.length) (hV : Dag.Valid (afterL ts))
include hf hV
theorem up_ge {u v : Nat} (hu : u ∈ befL (afterL ts) v) : upD ts v + wtAt ts u ≤ upD ts u := by
  obtain ⟨h1, h2, h3⟩ := dn_arc hf hu
  have hb : v ∈ behL (afterL ts) u := beh_mem.2 ⟨by rw [afterL_len]; exact h1, (bef_mem.1 hu).2⟩
  rw [upD_step hf hV h2]
  unfold upS
  have := maxL_ge (List.mem_map.2 ⟨v, hb, rfl⟩ : upD ts v ∈ (behL (afterL ts) u).map (upD ts))
  omega
theorem dn_up {L : Int} (hL : ∀ v, v < ts.length → upD ts v ≤ L) : ∀ k v, v < ts.length → posD ts v < k → dnD ts v + upD ts v ≤ L
  | 0, v, _, h => absurd h (Nat.not_lt_zero _)
  | k + 1, v, hv, h => by
    have h0 := hL v hv
    have e := dnD_step hf hv
    unfold dnS at e
    rcases maxL_cases ((befL (afterL ts) v).map fun w => dnD ts w + wtAt ts w) with hc | hc
    · omega
    · obtain ⟨u, hu, hx⟩ := List.mem_map.1 hc
      obtain ⟨h1, h2, h3⟩ := dn_arc hf hu
      have h4 := dn_up hL k u h2 (by omega)
      have h5 := up_ge hf hV hu
      omega
theorem up_wt {v : Nat} (hv : v < ts.length) : wtAt ts v ≤ upD ts v := by
  rw [upD_step hf hV hv]
  unfold upS
  have := maxL_nonneg ((behL (afterL ts) v).map (upD ts))
  omega
theorem up_after {v : Nat} (hv : v < ts.length) : upD ts v - wtAt ts v = maxL ((behL (afterL ts) v).map (upD ts)) := by
  rw [upD_step hf hV hv]; unfold upS; omega
end
section
variable {ts : List TaskD} (hf : (order (afterL ts)).length = ts.length)
include hf
theorem dn_ge {u v : Nat} (hu : u ∈ befL (afterL ts) v) : dnD ts u + wtAt ts u ≤ dnD ts v := by
  obtain ⟨h1, h2, h3⟩ := dn_arc hf hu
  rw [dnD_step hf h1]
  unfold dnS
  exact maxL_ge (List.mem_map.2 ⟨u, hu, rfl⟩ : dnD ts u + wtAt ts u ∈ (befL (afterL ts) v).map fun w => dnD ts w + wtAt ts w)
theorem dn_low {v : Nat} (hv : v < ts.length) : 0 ≤ dnD ts v := by rw [dnD_step hf hv]; exact maxL_nonneg _
end
/-- all that the walks want of ranks -/
structure RkOK (f : FlowD) (L : Int) : Prop where
  full : (order (afterL f.tasks)).length = f.tasks.length
  dn0 : ∀ v, v < f.tasks.length → 0 ≤ dnD f.tasks v
  wt0 : ∀ v, 0 ≤ wtAt f.tasks v
  up : ∀ v, v < f.tasks.length → wtAt f.tasks v ≤ upD f.tasks v
  sum : ∀ v, v < f.tasks.length → dnD f.tasks v + upD f.tasks v ≤ L
  dn : ∀ v u, u ∈ befL (afterL f.tasks) v → dnD f.tasks u + wtAt f.tasks u ≤ dnD f.tasks v
  upg : ∀ v u, u ∈ befL (afterL f.tasks) v → upD f.tasks v + wtAt f.tasks u ≤ upD f.tasks u
  top : L = 0 ∨ ∃ v, v < f.tasks.length ∧ upD f.tasks v = L
  low : 0 ≤ L
  high : L ≤ maxT
theorem rk_ok {f : FlowD} (h : rankE f (upD f.tasks) = 0) : RkOK f (lengthV f) := by
  obtain ⟨h1, h2, h3⟩ := chk_facts (rank_yes h).1
  refine ⟨h1, fun v hv => dn_low h1 hv, fun v => (h3 v).1, fun v hv => up_wt h1 h2 hv, fun v hv => dn_up h1 h2 (fun v hv => lenV_ge h hv) _ v hv (Nat.lt_succ_self _), fun v u hu => dn_ge h1 hu, fun v u hu => up_ge h1 h2 hu, ?_, (lenV_bd f).1, (lenV_bd f).2⟩
  rw [lenV_yes h]
  rcases maxL_cases (numsU f.tasks.length (upD f.tasks)) with hc | hc
  · exact Or.inl hc
  · obtain ⟨v, hv, e⟩ := List.mem_map.1 hc
    exact Or.inr ⟨v, List.mem_range.1 hv, e⟩
theorem dn_ok {f : FlowD} (h : rankE f (upD f.tasks) = 0) : rankE f (dnD f.tasks) = 0 := by
  have hr := rk_ok h
  unfold rankE
  rw [if_neg (fun e => e (rank_yes h).1), if_pos]
  exact okU_iff.2 fun v hv => by
    have := hr.sum v hv; have := hr.up v hv; have := hr.wt0 v; have := hr.high; omega

theorem ear_yes {f : FlowD} {now : Int} (h : earE f now = 0) : Clk.isT now = true ∧ rankE f (upD f.tasks) = 0 ∧ now + lengthV f ≤ maxT := by
  unfold earE at h
  by_cases h1 : Clk.isT now = true
  · rw [if_pos h1] at h
    by_cases h2 : rankE f (upD f.tasks) = 0
    · rw [if_pos h2] at h
      by_cases h3 : now + lengthV f ≤ maxT
      · exact ⟨h1, h2, h3⟩
      · rw [if_neg h3] at h; cases h
    · rw [if_neg h2] at h; exact absurd h h2
  · rw [if_neg h1] at h; cases h
theorem win_yes {f : FlowD} {now by_ : Int} (h : winE f now by_ = 0) : Clk.isT now = true ∧ Clk.isT by_ = true ∧ earE f now = 0 ∧ now + lengthV f ≤ by_ := by
  unfold winE at h
  by_cases h1 : Clk.isT now = true ∧ Clk.isT by_ = true
  · rw [if_pos h1] at h
    by_cases h2 : earE f now = 0
    · rw [if_pos h2] at h
      by_cases h3 : by_ < now + lengthV f
      · rw [if_pos h3] at h; cases h
      · exact ⟨h1.1, h1.2, h2, by omega⟩
    · rw [if_neg h2] at h; exact absurd h h2
  · rw [if_neg h1] at h; cases h
theorem win_iff {f : FlowD} {now by_ : Int} : winE f now by_ = 0 ↔ Clk.isT now = true ∧ Clk.isT by_ = true ∧ earE f now = 0 ∧ now + lengthV f ≤ by_ := by
  refine ⟨win_yes, fun ⟨h1, h2, h3, h4⟩ => ?_⟩
  unfold winE
  rw [if_pos ⟨h1, h2⟩, if_pos h3, if_neg (by omega)]
theorem win_len {f : FlowD} {now by_ : Int} (h : winE f now by_ = 0) : (winL f now by_).length = f.tasks.length ∧ (shrL f now by_).length = f.tasks.length ∧ (slkL f now by_).length = f.tasks.length := by
  unfold winL shrL slkL; rw [if_pos h, if_pos h, if_pos h]; simp
theorem win_get {f : FlowD} {now by_ : Int} (h : winE f now by_ = 0) {v : Nat} (hv : v < f.tasks.length) : (winL f now by_)[v]? = some (win1 f.tasks now by_ v) ∧ (shrL f now by_)[v]? = some (shr1 f.tasks (lengthV f) now by_ v) ∧ (slkL f now by_)[v]? = some (slk1 f.tasks now by_ v) := by
  unfold winL shrL slkL; rw [if_pos h, if_pos h, if_pos h]
  simp only [List.getElem?_map, List.getElem?_range hv, Option.map_some, and_self]

/-- so many times, decomposed by a power of two -/
theorem share_eq {n s L u : Int} (hL : 0 < L) (hu : 0 < u) : (n * (s / u) / L) * u + (n * (s / u) % L * u + n * (s % u)) / L = n * s / L := by
  have h1 : n * s = (n * (s / u) / L * u) * L + (n * (s / u) % L * u + n * (s % u)) := by
    have e1 : s = u * (s / u) + s % u := (Int.mul_ediv_add_emod s u).symm
    have e2 : n * (s / u) = L * (n * (s / u) / L) + n * (s / u) % L := (Int.mul_ediv_add_emod _ L).symm
    generalize n * (s / u) / L = q at e2
    generalize n * (s / u) % L = r at e2
    generalize s % u = t at e1
    generalize s / u = p at e1 e2
    have h3 : (q * u) * L = (L * q) * u := by rw [Int.mul_comm (q * u) L, Int.mul_assoc]
    rw [e1, Int.mul_add, h3]
    have h4 : n * (u * p) = (n * p) * u := by rw [Int.mul_comm u p, Int.mul_assoc]
    rw [h4, e2, Int.add_mul]
    omega
  rw [h1, Int.add_comm ((n * (s / u) / L * u) * L), Int.add_mul_ediv_right _ _ (by omega)]
  omega
end Go.Proofs.YtaiolhanbjndcaaDoor
namespace Go.Proofs.YtaiolhanbjndcaaDoor
open Go.RowKit Go.Shelf
open Dag (Ints Own1 Sl num num_len num_get Gr newE order behL order_ord)
set_option linter.unusedVariables false
set_option maxRecDepth 100000

theorem up_any (f : FlowD) (A : Option Addr) (c : Nat) (w : World) (h : FlA w f A c) :
    Calls Tryd.prog 10 #[.agg #[.string (sb f.name), .int .i64 f.deadline, .int .i64 f.priority, .slice A f.tasks.length c]] w (RetU f (upD f.tasks) w) := by
  have HR := Lib.hid fun W (hW : Below w.heap.size w W) => ranked_any f A c W (h.below hW)
  clear h
  unfold RetU
  unfold RetR at HR
  obtain ⟨xs, hxs⟩ : ∃ xs, rankV f (upD f.tasks) = xs := ⟨_, rfl⟩
  obtain ⟨e0, he0⟩ : ∃ e0, rankE f (upD f.tasks) = e0 := ⟨_, rfl⟩
  rw [hxs, he0] at HR ⊢
  clear hxs he0
  go_enter Tryd.func10, Tryd.ntmps10
  go_wp2_with fail
  refine (HR.out _ (al _ _)).mono ?_
  rintro e w1 ⟨p, B, d, rfl, hi, hb, _, _⟩
  have HI := Lib.hid hi; have HB := Lib.hid (blw (al w (flowO f A c)) hb)
  clear hi hb
  go_wp2
  go_ret2
  exact ⟨B, d, rfl, HI.out, HB.out⟩
theorem order_nil (w : World) : Calls Tryd.prog 21 #[.pointer none] w fun e w' => e = .returned (.slice none 0 0) ∧ w = w' := by
  go_enter Tryd.func21, Tryd.ntmps21
  go_wp2
  go_ret
  exact ⟨rfl, rfl⟩
theorem len_order {f : FlowD} (h : rankE f (upD f.tasks) = 0) : maxL ((order (afterL f.tasks)).map (atL (rankV f (upD f.tasks)))) = lengthV f := by
  obtain ⟨hc, ho⟩ := rank_yes h
  obtain ⟨hf, _, _⟩ := chk_facts hc
  unfold lengthV
  have hv : rankV f (upD f.tasks) = numsU f.tasks.length (upD f.tasks) := by unfold rankV; rw [if_pos h]
  rw [hv]
  refine maxL_eq fun x => ?_
  have hat : ∀ v, v < f.tasks.length → atL (numsU f.tasks.length (upD f.tasks)) v = upD f.tasks v := fun v hv => atL_some (by unfold numsU; rw [List.getElem?_map, List.getElem?_range hv]; rfl)
  constructor
  · intro hx
    obtain ⟨v, hv, rfl⟩ := List.mem_map.1 hx
    have hl := (ord_all hf v).1 hv
    rw [hat v hl]
    exact List.mem_map.2 ⟨v, List.mem_range.2 hl, rfl⟩
  · intro hx
    obtain ⟨v, hv, rfl⟩ := List.mem_map.1 hx
    have hl := List.mem_range.1 hv
    exact List.mem_map.2 ⟨v, (ord_all hf v).2 hl, hat v hl⟩
theorem length_any (f : FlowD) (A : Option Addr) (c : Nat) (w : World) (h : FlA w f A c) :
    Calls Tryd.prog 13 #[.agg #[.string (sb f.name), .int .i64 f.deadline, .int .i64 f.priority, .slice A f.tasks.length c]] w fun e w' => e = .returned (.tuple #[.int .i64 (lengthV f), .int .i64 (rankE f (upD f.tasks))]) ∧ Below w.heap.size w w' := by
  have HR := Lib.hid fun W (hW : Below w.heap.size w W) => ranked_any f A c W (h.below hW)
  have hlen := h.len
  clear h
  unfold RetR at HR
  by_cases h0 : rankE f (upD f.tasks) = 0
  · have HL := Lib.hid (len_order h0)
    have HF := Lib.hid (chk_facts (rank_yes h0).1).1
    have HEL := Lib.hid (afterL_len f.tasks)
    have hxn : (rankV f (upD f.tasks)).length = f.tasks.length := by unfold rankV numsU; rw [if_pos h0]; simp
    have HXN := Lib.hid hxn
    have HE := Lib.hid h0
    rw [hxn] at HR
    rw [h0]
    obtain ⟨xs, hxs⟩ : ∃ xs, rankV f (upD f.tasks) = xs := ⟨_, rfl⟩
    rw [hxs, h0] at HR
    rw [hxs] at HL HXN
    clear hxs hxn h0
    go_enter Tryd.func13, Tryd.ntmps13
    go_wp2_with fail
    refine (HR.out _ (al _ _)).mono ?_
    rintro e w1 ⟨p, B, d, rfl, hi, hb, hg, _⟩
    have HI := Lib.hid hi; have HB := Lib.hid (blw (al w (flowO f A c)) hb)
    have HG := Lib.hid (hg (by first | rfl | trivial))
    clear hi hb hg
    go_wp2_with fail
    refine (Dag.order_any _ (afterL f.tasks) (.pointer p) HG.out (by rw [HEL.out]; exact hlen)).mono ?_
    rintro e w2 ⟨Ao, co, rfl, hio, hb2, _⟩
    have HIO := Lib.hid hio; have HB2 := Lib.hid (blw HB.out hb2)
    have HI2 := Lib.hid (HI.out.below hb2)
    clear hio hb2
    have hgr := greatest_any xs f.tasks.length HXN.out (order (afterL f.tasks)) (num (order (afterL f.tasks))).length (num_len _).symm (fun v hv => (ord_all HF.out v).1 hv) w2 B Ao d co HI2.out HIO.out
    rw [HL.out] at hgr
    go_wp2_with fail
    refine hgr.mono ?_
    rintro e w3 ⟨rfl, rfl⟩
    go_wp2
    go_ret2
    exact ⟨rfl, HB2.out⟩
  · have HL : Hid (lengthV f = 0) := Lib.hid (lenV_no h0)
    have hv : rankV f (upD f.tasks) = [] := by unfold rankV; rw [if_neg h0]
    have H0 := Lib.hid h0
    obtain ⟨e0, he0⟩ : ∃ e0, rankE f (upD f.tasks) = e0 := ⟨_, rfl⟩
    rw [hv, he0] at HR
    rw [he0] at H0 ⊢
    clear hv he0 h0
    simp only [List.length_nil] at HR
    go_enter Tryd.func13, Tryd.ntmps13
    go_wp2_with fail
    refine (HR.out _ (al _ _)).mono ?_
    rintro e w1 ⟨p, B, d, rfl, hi, hb, _, hp⟩
    obtain rfl := hp H0.out
    have HI := Lib.hid hi; have HB := Lib.hid (blw (al w (flowO f A c)) hb)
    clear hi hb hp
    go_wp2_with fail
    refine (order_nil _).mono ?_
    rintro e w2 ⟨rfl, rfl⟩
    have hgr := greatest_any [] 0 rfl [] 0 rfl (fun v hv => by simp at hv) w1 B none d 0 HI.out (Dag.Ints.empty _)
    go_wp2_with fail
    refine hgr.mono ?_
    rintro e w3 ⟨rfl, rfl⟩
    go_wp2
    go_ret2
    exact ⟨by rw [HL.out]; rfl, HB.out⟩
end Go.Proofs.YtaiolhanbjndcaaDoor

