/- A workflow is read from its text as it was: in plain words. No program. -/
import Derived.Test.YtkcijibkloamkaaGreatDoorFlwPrint
import Derived.Test.YtkcijibkloamkaaGreatDoorFlwFnd
namespace Go.Proofs.YtkcijibkloamkaaGreatDoor
open Txt (nameD dec sameS joinL linesA wordsA linesE linesV wordsE wordsV catL Word gap ctl ctlL)
open Clk (isT readE readV textL txt)
open Dag (num)
open Go.Lib (validD decodeL)
set_option linter.unusedVariables false
set_option maxRecDepth 100000

/-! words that are written -/
def okB (b : UInt8) : Bool := decide (32 < b.toNat) && decide (b.toNat ≠ 127)
theorem okB_at {b : UInt8} (h : okB b = true) : 32 < b.toNat ∧ b.toNat ≠ 127 := by
  unfold okB at h
  rw [Bool.and_eq_true] at h
  exact ⟨of_decide_eq_true h.1, of_decide_eq_true h.2⟩
theorem okB_gap {b : UInt8} (h : okB b = true) : gap b = false := by
  have := okB_at h
  unfold gap
  rw [Bool.or_eq_false_iff, beq_eq_false_iff_ne, beq_eq_false_iff_ne]
  exact ⟨fun e => by subst e; have := this.1; contradiction, fun e => by subst e; have := this.1; contradiction⟩
theorem okB_ctl {b : UInt8} (h : okB b = true) : ctl b = false := by
  have := okB_at h
  unfold ctl
  rw [Bool.or_eq_false_iff, beq_eq_false_iff_ne, decide_eq_false (by omega)]
  exact ⟨rfl, fun e => by subst e; exact this.2 rfl⟩
theorem okB_nl {b : UInt8} (h : okB b = true) : b ≠ 10 := fun e => by subst e; have := (okB_at h).1; contradiction
structure GW (w : List UInt8) : Prop where
  word : Word w
  byt : ∀ b ∈ w, okB b = true
def gwB (w : List UInt8) : Bool := decide (w ≠ []) && w.all fun b => okB b && (decide (b.toNat < 128) && b != 35)
theorem ascii_valid : ∀ l : List UInt8, (∀ b ∈ l, b.toNat < 128) → validD l = true
  | [], _ => rfl
  | b :: l, h => by rw [Lib.validD_cons b l (h b (by simp))]; exact ascii_valid l fun x hx => h x (List.mem_cons_of_mem _ hx)
theorem gw_of {w : List UInt8} (h : gwB w = true) : GW w := by
  unfold gwB at h
  rw [Bool.and_eq_true, List.all_eq_true] at h
  have h0 := of_decide_eq_true h.1
  have hb : ∀ b ∈ w, okB b = true ∧ b.toNat < 128 ∧ b ≠ 35 := fun b hb => by
    have := h.2 b hb
    simp only [Bool.and_eq_true, decide_eq_true_eq, bne_iff_ne] at this
    exact this
  exact ⟨⟨h0, ascii_valid w fun b hx => (hb b hx).2.1, fun b hx => okB_gap (hb b hx).1, fun e => (hb 35 (List.mem_of_mem_head? (by rw [e]; rfl))).2.2 rfl⟩, fun b hx => (hb b hx).1⟩
theorem kw_gw {k : Nat} (hk : k < 9) : GW (kwB k) := gw_of ((show ∀ k, k < 9 → gwB (kwB k) = true from by decide) k hk)
theorem child_gw : GW childW := gw_of (by decide)
theorem dig_gw {w : List UInt8} (h : w.all Clk.isDig = true) (hne : w ≠ []) : GW w := by
  refine gw_of ?_
  unfold gwB
  rw [decide_eq_true hne, Bool.true_and, List.all_eq_true]
  intro b hb
  have := List.all_eq_true.1 h b hb
  unfold Clk.isDig at this
  simp only [Bool.and_eq_true, decide_eq_true_eq] at this
  unfold okB
  simp only [Bool.and_eq_true, decide_eq_true_eq, bne_iff_ne]
  refine ⟨⟨by omega, by omega⟩, by omega, fun e => by subst e; have := this.1; contradiction⟩
theorem text_gw {n : Int} (h : isT n = true) : GW (textL n) := by
  rw [Clk.textL_yes h]
  exact dig_gw (Clk.txt_digs _) (Clk.txt_ne _)
theorem text_read {n : Int} (h : isT n = true) : readE (textL n) = 0 ∧ readV (textL n) = n := by
  have b := Clk.isT_bd h
  rw [Clk.textL_yes h]
  have hv : Clk.val (txt n.toNat) = n.toNat := Clk.txt_val n.toNat
  have := Clk.read_yes (Clk.txt_numB n.toNat) (by rw [hv]; omega)
  rw [hv] at this
  exact ⟨this.2, by rw [this.1]; omega⟩
theorem low_in : ∀ (n : Nat) (l : List UInt8), l.length ≤ n → validD l = true → ∀ b ∈ l, b.toNat < 128 → (b.toNat, 1) ∈ dec l
  | 0, l, h, _, b, hb, _ => by
    have : l = [] := List.eq_nil_of_length_eq_zero (by omega)
    subst this; cases hb
  | n + 1, l, h, hv, b, hb, hlow => by
    have hne : l ≠ [] := fun e => by subst e; cases hb
    have hw := Lib.decodeL_width l
    rw [Txt.dec_step l hne]
    rw [Lib.validD_step l hne] at hv
    rw [← List.take_append_drop (decodeL l).2 l] at hb
    rcases List.mem_append.1 hb with hb | hb
    · by_cases hl0 : (l.getD 0 0).toNat < 128
      · have e := Txt.step_ascii hne hl0
        rw [e] at hb ⊢
        obtain ⟨x, r, rfl⟩ := List.exists_cons_of_ne_nil hne
        simp at hb
        subst hb
        exact List.mem_cons_self
      · have := (Txt.step_high hne (by omega)).2 b hb
        omega
    · split at hv
      · cases hv
      · exact List.mem_cons_of_mem _ (low_in n _ (by rw [List.length_drop]; omega) hv b hb hlow)
theorem good_mem : ∀ (ps : List (Nat × Nat)) (n : Nat), Txt.goodFrom n ps = true → ∀ p ∈ ps, (Lib.isLetterU p.1 || Txt.innerR p.1) = true
  | [], _, _, p, hp => by cases hp
  | q :: ps, n, h, p, hp => by
    rw [Txt.goodFrom, Bool.and_eq_true] at h
    rcases List.mem_cons.1 hp with rfl | hp
    · have := h.1
      unfold Txt.okAt at this
      rw [Bool.or_eq_true] at this ⊢
      rcases this with a | a
      · exact Or.inl a
      · rw [Bool.and_eq_true] at a; exact Or.inr a.2
    · exact good_mem ps (n + 1) h.2 p hp
theorem ascii_ok : ((List.range 128).all fun r => !(Lib.isLetterU (r : Nat) || Txt.innerR (r : Nat)) || (decide (32 < r) && (decide (r ≠ 127) && decide (r ≠ 35)))) = true := by kernel_rfl
theorem name_gw {l : List UInt8} (h : nameD l = true) : GW l := by
  rw [Txt.nameD_eq] at h
  simp only [Bool.and_eq_true, decide_eq_true_eq] at h
  obtain ⟨hv, h0, _, hg⟩ := h
  have key : ∀ b ∈ l, okB b = true ∧ b ≠ 35 := fun b hb => by
    unfold okB
    rw [Bool.and_eq_true, decide_eq_true_eq, decide_eq_true_eq]
    rcases Nat.lt_or_ge b.toNat 128 with hlt | hge
    · have h1 := good_mem _ _ hg _ (low_in _ l (Nat.le_refl _) hv b hb hlt)
      have h2 := List.all_eq_true.1 ascii_ok b.toNat (List.mem_range.2 hlt)
      simp only at h1
      rw [h1] at h2
      simp only [Bool.not_true, Bool.false_or, Bool.and_eq_true, decide_eq_true_eq] at h2
      exact ⟨⟨h2.1, h2.2.1⟩, fun e => by subst e; exact h2.2.2 rfl⟩
    · exact ⟨⟨by omega, by omega⟩, fun e => by subst e; exact absurd hge (by decide)⟩
  exact ⟨⟨fun e => by subst e; exact h0 rfl, hv, fun b hb => okB_gap (key b hb).1, fun e => (key 35 (List.mem_of_mem_head? (by rw [e]; rfl))).2 rfl⟩, fun b hb => (key b hb).1⟩

/-! its lines, as words -/
def numW (k : Nat) (n : Int) (pre : List (List UInt8)) : List (List (List UInt8)) := if n ≠ leastN k then [kwB k :: (pre ++ [textL n])] else []
def taskW (t : TaskD) : List (List (List UInt8)) := [kwB 3, t.name] :: (numW 4 t.nodes [t.name] ++ (numW 5 t.wall [t.name] ++ (numW 6 t.retry [t.name] ++ if t.done = true then [[kwB 7, t.name]] else [])))
def parW (ts : List TaskD) (t : TaskD) : List (List (List UInt8)) := if t.after = [] then [] else [kwB 8 :: (t.after.map (nameAt ts) ++ [childW, t.name])]
def flatW {α β : Type} (g : α → List β) : List α → List β
  | [] => []
  | x :: r => g x ++ flatW g r
def flowW (f : FlowD) : List (List (List UInt8)) := [kwB 0, f.name] :: (numW 1 f.deadline [] ++ (numW 2 f.priority [] ++ (flatW taskW f.tasks ++ flatW (parW f.tasks) f.tasks)))
theorem catL_app (a b : List (List UInt8)) : catL (a ++ b) = catL a ++ catL b := by
  induction a with
  | nil => rfl
  | cons x r ih => simp [catL, ih]
theorem ln_cat (k : Nat) (w : List UInt8) (ws : List (List UInt8)) : catL ([kwB k :: w :: ws].map joinL) = lnL k (w :: ws) := by
  simp [catL, joinL, lnL]
theorem ln_cat' (k : Nat) (ws : List (List UInt8)) (h : ws ≠ []) : catL ([kwB k :: ws].map joinL) = lnL k ws := by
  obtain ⟨w, r, rfl⟩ := List.exists_cons_of_ne_nil h
  exact ln_cat k w r
theorem num_cat (k : Nat) (n : Int) (pre : List (List UInt8)) : catL ((numW k n pre).map joinL) = numL k n pre := by
  unfold numW numL
  split
  · exact ln_cat' k _ (by simp)
  · rfl
theorem task_cat (t : TaskD) : catL ((taskW t).map joinL) = taskL t := by
  unfold taskW taskL
  rw [show ([kwB 3, t.name] :: (numW 4 t.nodes [t.name] ++ (numW 5 t.wall [t.name] ++ (numW 6 t.retry [t.name] ++ if t.done = true then [[kwB 7, t.name]] else [])))) = [[kwB 3, t.name]] ++ (numW 4 t.nodes [t.name] ++ (numW 5 t.wall [t.name] ++ (numW 6 t.retry [t.name] ++ if t.done = true then [[kwB 7, t.name]] else []))) from rfl]
  simp only [List.map_append, catL_app, num_cat]
  rw [ln_cat 3 t.name []]
  congr 4
  split
  · exact ln_cat 7 t.name []
  · rfl
theorem par_cat (ts : List TaskD) (t : TaskD) : catL ((parW ts t).map joinL) = parL ts t := by
  unfold parW parL
  split
  · rfl
  · exact ln_cat' 8 _ (by simp)
theorem flat_cat {α : Type} {G : α → List (List (List UInt8))} {g : α → List UInt8} (h : ∀ x, catL ((G x).map joinL) = g x) (l : List α) : catL ((flatW G l).map joinL) = flatL g l := by
  induction l with
  | nil => rfl
  | cons x l ih => simp only [flatW, flatL, List.map_append, catL_app, h, ih]
theorem print_cat (f : FlowD) : printL f = catL ((flowW f).map joinL) := by
  unfold flowW printL
  rw [show ([kwB 0, f.name] :: (numW 1 f.deadline [] ++ (numW 2 f.priority [] ++ (flatW taskW f.tasks ++ flatW (parW f.tasks) f.tasks)))) = [[kwB 0, f.name]] ++ (numW 1 f.deadline [] ++ (numW 2 f.priority [] ++ (flatW taskW f.tasks ++ flatW (parW f.tasks) f.tasks))) from rfl]
  simp only [List.map_append, catL_app, num_cat, flat_cat task_cat, flat_cat (par_cat f.tasks)]
  rw [ln_cat 0 f.name []]

theorem flatW_mem {α β : Type} {g : α → List β} {l : List α} {y : β} : y ∈ flatW g l ↔ ∃ x ∈ l, y ∈ g x := by
  induction l with
  | nil => simp [flatW]
  | cons x l ih => simp [flatW, ih]
theorem inR_T {a b n : Int} (h : inR a b n = true) (ha : 0 ≤ a) (hb : b ≤ maxT) : isT n = true := by
  unfold inR at h
  simp only [Bool.and_eq_true, decide_eq_true_eq] at h
  unfold maxT at hb
  unfold isT
  simp only [Bool.and_eq_true, decide_eq_true_eq]
  omega
structure NumT (t : TaskD) : Prop where
  n : inR 1 10000 t.nodes = true
  w : inR 1 maxT t.wall = true
  r : inR 0 20 t.retry = true
theorem Fine.numT {f : FlowD} (h : Fine f) {t : TaskD} (ht : t ∈ f.tasks) : NumT t := by
  have h1 := h.nums
  unfold numbersOK at h1
  rw [Bool.and_eq_true, List.all_eq_true] at h1
  have := h1.1 t ht
  unfold numsOK at this
  simp only [Bool.and_eq_true] at this
  exact ⟨this.1, this.2.1, this.2.2⟩
theorem Fine.dl {f : FlowD} (h : Fine f) : inR 0 maxT f.deadline = true ∧ inR 0 1000 f.priority = true := by
  have h1 := h.nums
  unfold numbersOK at h1
  simpa only [Bool.and_eq_true] using (Bool.and_eq_true _ _ |>.mp h1).2
theorem Fine.tname {f : FlowD} (h : Fine f) {t : TaskD} (ht : t ∈ f.tasks) : nameD t.name = true ∧ sameS t.name childW = false := by
  have := h.names t ht
  unfold taskName at this
  rw [Bool.and_eq_true, Bool.not_eq_true'] at this
  exact this
theorem Fine.nameAt_mem {f : FlowD} (h : Fine f) {t : TaskD} (ht : t ∈ f.tasks) {v : Int} (hv : v ∈ t.after) : ∃ u ∈ f.tasks, nameAt f.tasks v = u.name := by
  have := (h.ain ht v hv).2
  refine ⟨f.tasks[v.toNat], List.getElem_mem _, ?_⟩
  unfold nameAt
  rw [List.getElem?_eq_getElem this]
theorem num_good {k : Nat} (hk : k < 9) {n : Int} (hn : isT n = true) {pre : List (List UInt8)} (hp : ∀ w ∈ pre, GW w) : ∀ ws ∈ numW k n pre, ws ≠ [] ∧ ∀ w ∈ ws, GW w := by
  intro ws h
  unfold numW at h
  split at h
  · simp at h
    subst h
    refine ⟨by simp, fun w hw => ?_⟩
    simp at hw
    rcases hw with rfl | hw | rfl
    · exact kw_gw hk
    · exact hp w hw
    · exact text_gw hn
  · cases h
theorem Fine.good {f : FlowD} (h : Fine f) : ∀ ws ∈ flowW f, ws ≠ [] ∧ ∀ w ∈ ws, GW w := by
  have hT : (1 : Int) ≤ maxT := by decide
  intro ws hm
  unfold flowW at hm
  rcases List.mem_cons.1 hm with rfl | hm
  · exact ⟨by simp, fun w hw => by simp at hw; rcases hw with rfl | rfl; exact kw_gw (by decide); exact name_gw h.name⟩
  rcases List.mem_append.1 hm with hm | hm
  · exact num_good (by decide) (inR_T h.dl.1 (by decide) (by decide)) (by simp) ws hm
  rcases List.mem_append.1 hm with hm | hm
  · exact num_good (by decide) (inR_T h.dl.2 (by decide) (by decide)) (by simp) ws hm
  rcases List.mem_append.1 hm with hm | hm
  · obtain ⟨t, ht, hm⟩ := flatW_mem.1 hm
    have hn := name_gw (h.tname ht).1
    have hnn : ∀ w ∈ [t.name], GW w := fun w hw => by simp at hw; subst hw; exact hn
    have hN := h.numT ht
    unfold taskW at hm
    rcases List.mem_cons.1 hm with rfl | hm
    · exact ⟨by simp, fun w hw => by simp at hw; rcases hw with rfl | rfl; exact kw_gw (by decide); exact hn⟩
    rcases List.mem_append.1 hm with hm | hm
    · exact num_good (by decide) (inR_T hN.n (by decide) (by decide)) hnn ws hm
    rcases List.mem_append.1 hm with hm | hm
    · exact num_good (by decide) (inR_T hN.w (by decide) (by decide)) hnn ws hm
    rcases List.mem_append.1 hm with hm | hm
    · exact num_good (by decide) (inR_T hN.r (by decide) (by decide)) hnn ws hm
    split at hm
    · simp at hm
      subst hm
      exact ⟨by simp, fun w hw => by simp at hw; rcases hw with rfl | rfl; exact kw_gw (by decide); exact hn⟩
    · cases hm
  · obtain ⟨t, ht, hm⟩ := flatW_mem.1 hm
    unfold parW at hm
    split at hm
    · cases hm
    · simp at hm
      subst hm
      refine ⟨by simp, fun w hw => ?_⟩
      simp only [List.mem_cons, List.mem_append, List.mem_map, List.not_mem_nil, or_false] at hw
      rcases hw with rfl | ⟨v, hv, rfl⟩ | rfl | rfl
      · exact kw_gw (by decide)
      · obtain ⟨u, hu, e⟩ := h.nameAt_mem ht hv
        rw [e]; exact name_gw (h.tname hu).1
      · exact child_gw
      · exact name_gw (h.tname ht).1
theorem line_good {ws : List (List UInt8)} (h : ∀ w ∈ ws, GW w) : validD (joinL ws) = true ∧ ctlL (joinL ws) = false ∧ (∀ b ∈ joinL ws, b ≠ 10) ∧ wordsE (joinL ws) = 0 ∧ wordsV (joinL ws) = ws := by
  have hv := Txt.joinL_valid ws fun w hw => (h w hw).word
  have hc : ctlL (joinL ws) = false := by
    unfold ctlL
    rw [List.any_eq_false]
    intro b hb
    rcases Txt.joinL_mem _ b hb with rfl | ⟨w, hw, hb⟩
    · decide
    · rw [okB_ctl ((h w hw).byt b hb)]; simp
  have := Txt.wordsV_yes hv hc
  refine ⟨hv, hc, fun b hb => ?_, this.2, by rw [this.1]; exact Txt.joinL_words ws fun w hw => (h w hw).word⟩
  rcases Txt.joinL_mem _ b hb with rfl | ⟨w, hw, hb⟩
  · decide
  · exact okB_nl ((h w hw).byt b hb)
theorem catL_valid : ∀ ls : List (List UInt8), (∀ l ∈ ls, validD l = true) → validD (catL ls) = true
  | [], _ => rfl
  | l :: ls, h => by rw [catL, Txt.valid_app _ (h l (by simp)), Lib.validD_cons 10 _ (by decide)]; exact catL_valid ls fun x hx => h x (List.mem_cons_of_mem _ hx)

/-! one line after another -/
def runW : St → List (List (List UInt8)) → Except Int St
  | s, [] => .ok s
  | s, [] :: r => runW s r
  | s, (h :: t) :: r => match addW s h t with
    | .error e => .error e
    | .ok s' => runW s' r
theorem runW_app : ∀ (a b : List (List (List UInt8))) (s s' : St), runW s a = .ok s' → runW s (a ++ b) = runW s' b
  | [], b, s, s', h => by rw [runW] at h; injection h with h; subst h; rfl
  | [] :: a, b, s, s', h => by rw [runW] at h; rw [List.cons_append, runW]; exact runW_app a b s s' h
  | (x :: t) :: a, b, s, s', h => by
    rw [runW] at h
    rw [List.cons_append, runW]
    cases he : addW s x t with
    | error e => rw [he] at h; cases h
    | ok s2 => rw [he] at h; exact runW_app a b s2 s' h
theorem runW_one {s s' : St} {x : List UInt8} {t : List (List UInt8)} (h : addW s x t = .ok s') : runW s [x :: t] = .ok s' := by rw [runW, h]; rfl
theorem runW_skip : ∀ (a : List (List (List UInt8))) (s : St), runW s (a.filter fun ws => decide (ws ≠ [])) = runW s a
  | [], s => rfl
  | [] :: a, s => by rw [runW, List.filter_cons_of_neg (by simp)]; exact runW_skip a s
  | (x :: t) :: a, s => by
    rw [List.filter_cons_of_pos (by simp), runW, runW]
    cases addW s x t with
    | error e => rfl
    | ok s2 => exact runW_skip a s2
theorem feed_run : ∀ (ls : List (List UInt8)) (s s' : St) (i : Nat) (rest : List (List UInt8)), (∀ l ∈ ls, wordsE l = 0) → runW s (ls.map wordsV) = .ok s' → feed s i (ls ++ rest) = feed s' (i + ls.length) rest
  | [], s, s', i, rest, _, h => by rw [List.map_nil, runW] at h; injection h with h; subst h; rfl
  | l :: ls, s, s', i, rest, hE, h => by
    have h0 := hE l (by simp)
    rw [List.cons_append, feed]
    rw [List.map_cons] at h
    unfold lineSt
    rw [if_neg (by simp [h0])]
    cases hw : wordsV l with
    | nil =>
      rw [hw, runW] at h
      have := feed_run ls s s' (i + 1) rest (fun x hx => hE x (List.mem_cons_of_mem _ hx)) h
      simp only
      rw [this, List.length_cons]
      congr 1; omega
    | cons x t =>
      rw [hw, runW] at h
      simp only
      cases he : addW s x t with
      | error e => rw [he] at h; cases h
      | ok s2 =>
        rw [he] at h
        have := feed_run ls s2 s' (i + 1) rest (fun x hx => hE x (List.mem_cons_of_mem _ hx)) h
        simp only
        rw [this, List.length_cons]
        congr 1; omega

end Go.Proofs.YtkcijibkloamkaaGreatDoor

/- A workflow is read from its text qs it was: line after line. No program. -/
namespace Go.Proofs.YtkcijibkloamkaaGreatDoor
open Txt (nameD dec sameS joinL linesA wordsA linesE linesV wordsE wordsV catL Word gap ctl ctlL)
open Clk (isT readE readV textL txt)
open Dag (num)
open Go.Lib (validD decodeL)
set_option linter.unusedVariables false
set_option maxRecDepth 100000

theorem key_kw : ∀ k, k < 9 → keyOf? (kwB k) = some k := by decide +kernel
theorem class_kw {k : Nat} (hk : k < 8) {l : List (List UInt8)} (hl : (l.length : Int) = wordsN k) : classD (kwB k) l = some (k, l) := by
  unfold classD
  rw [key_kw k (by omega)]
  split
  · rename_i h; cases h
  · rename_i h; injection h with h; omega
  · rename_i h; injection h with h; subst h; rw [if_pos hl]
theorem add_kw {k : Nat} (hk : k < 8) {l : List (List UInt8)} (hl : (l.length : Int) = wordsN k) (s : St) : addW s (kwB k) l = addSt s k l := by
  unfold addW
  rw [class_kw hk hl]
theorem num_ok {k : Nat} {v : Int} (hv : inR (leastN k) (mostN k) v = true) (hT : isT v = true) : numE k (textL v) = 0 ∧ readV (textL v) = v := by
  obtain ⟨h1, h2⟩ := text_read hT
  refine ⟨?_, h2⟩
  unfold numE
  rw [if_neg (by simp [h1]), h2, if_pos hv]
theorem step_begin {n : List UInt8} (h : nameD n = true) : addW St.start (kwB 0) [n] = .ok { St.start with name := n, had := upB no9 0 } := by
  rw [add_kw (by decide) rfl]
  unfold addSt
  rw [if_neg (by simp), if_neg (by decide)]
  simp only [if_true]
  unfold beginSt
  rw [if_neg (by simp [St.start, no9]), if_neg (by simp [h])]
  rfl
theorem step_set {s : St} {k : Nat} {v : Int} (hk : k = 1 ∨ k = 2) (h0 : s.had 0 = true) (h1 : s.had k = false) (hv : inR (leastN k) (mostN k) v = true) (hT : isT v = true) :
    addW s (kwB k) [textL v] = .ok (if k = 1 then { s with deadline := v, had := upB s.had 1 } else { s with priority := v, had := upB s.had 2 }) := by
  obtain ⟨n1, n2⟩ := num_ok hv hT
  rw [add_kw (by omega) (by rcases hk with rfl | rfl <;> rfl)]
  unfold addSt
  rw [if_neg (by simp [h0]), if_neg (by omega)]
  simp only
  rw [if_neg (by omega), if_pos hk]
  unfold setSt
  rw [if_neg (by simp [h1]), if_neg (by simp [n1]), n2]
theorem step_job {s : St} {n : List UInt8} (h0 : s.had 0 = true) (hn : taskName n = true) (hm : n ∉ namesP s.tasks) : addW s (kwB 3) [n] = .ok { s with tasks := s.tasks ++ [newTask n] } := by
  rw [add_kw (by decide) rfl]
  unfold addSt
  rw [if_neg (by simp [h0]), if_neg (by decide)]
  simp only
  rw [if_neg (by decide), if_neg (by decide), if_pos trivial]
  unfold jobSt
  rw [if_neg (by simp [hn]), if_neg hm]
theorem idx_last {ts : List TaskP} {x : TaskP} (hm : x.name ∉ namesP ts) : x.name ∈ namesP (ts ++ [x]) ∧ (namesP (ts ++ [x])).idxOf x.name = ts.length ∧ (ts ++ [x])[ts.length]? = some x := by
  have e : namesP (ts ++ [x]) = namesP ts ++ [x.name] := by simp [namesP]
  refine ⟨by rw [e]; simp, ?_, by simp⟩
  rw [e, List.idxOf_append, if_neg hm]
  simp [namesP]
theorem set_last {α : Type} (ts : List α) (x y : α) : (ts ++ [x]).set ts.length y = ts ++ [y] := by
  induction ts with
  | nil => rfl
  | cons a ts ih => simp [ih]
theorem step_tel {s : St} {k : Nat} {v : Int} {ts : List TaskP} {x : TaskP} (hk : k = 4 ∨ k = 5 ∨ k = 6) (h0 : s.had 0 = true) (hs : s.tasks = ts ++ [x]) (hm : x.name ∉ namesP ts) (ht : x.told k = false) (hv : inR (leastN k) (mostN k) v = true) (hT : isT v = true) :
    addW s (kwB k) [x.name, textL v] = .ok { s with tasks := ts ++ [(x.mark k).put k v] } := by
  obtain ⟨n1, n2⟩ := num_ok hv hT
  obtain ⟨i1, i2, i3⟩ := idx_last hm
  rw [add_kw (by omega) (by rcases hk with rfl | rfl | rfl <;> rfl)]
  unfold addSt
  rw [if_neg (by simp [h0]), if_neg (by omega)]
  simp only
  rw [if_neg (by omega), if_neg (by omega), if_neg (by omega)]
  unfold taskSt
  rw [hs, if_pos i1, i2, i3]
  simp only
  unfold telSt
  rw [if_neg (by simp [ht]), if_neg (by omega)]
  simp only
  rw [if_neg (by simp [n1]), n2, hs, set_last]
theorem step_done {s : St} {ts : List TaskP} {x : TaskP} (h0 : s.had 0 = true) (hs : s.tasks = ts ++ [x]) (hm : x.name ∉ namesP ts) (ht : x.told 7 = false) :
    addW s (kwB 7) [x.name] = .ok { s with tasks := ts ++ [(x.mark 7).put 7 0] } := by
  obtain ⟨i1, i2, i3⟩ := idx_last hm
  rw [add_kw (by omega) rfl]
  unfold addSt
  rw [if_neg (by simp [h0]), if_neg (by decide)]
  simp only
  rw [if_neg (by decide), if_neg (by decide), if_neg (by decide)]
  unfold taskSt
  rw [hs, if_pos i1, i2, i3]
  simp only
  unfold telSt
  rw [if_neg (by simp [ht]), if_pos rfl, hs, set_last]

def numT (x : TaskP) (k : Nat) (v : Int) : TaskP := if v ≠ leastN k then (x.mark k).put k v else x
theorem numT_name (x : TaskP) (k : Nat) (v : Int) : (numT x k v).name = x.name := by
  unfold numT
  split
  · exact put_name _ _ _
  · rfl
theorem put_told (t : TaskP) (k : Nat) (n : Int) : (t.put k n).told = t.told := by
  unfold TaskP.put; split <;> rfl
theorem numT_told {x : TaskP} {k j : Nat} {v : Int} (h : x.told j = false) (hj : j ≠ k) : (numT x k v).told j = false := by
  unfold numT
  split
  · rw [put_told]; show upB x.told k j = false; unfold upB; rw [h]; simp [hj]
  · exact h
theorem num_run {s : St} {k : Nat} {v : Int} {ts : List TaskP} {x : TaskP} (hk : k = 4 ∨ k = 5 ∨ k = 6) (h0 : s.had 0 = true) (hs : s.tasks = ts ++ [x]) (hm : x.name ∉ namesP ts) (ht : x.told k = false) (hv : inR (leastN k) (mostN k) v = true) (hT : isT v = true) :
    runW s (numW k v [x.name]) = .ok { s with tasks := ts ++ [numT x k v] } := by
  unfold numW numT
  split
  · exact runW_one (step_tel hk h0 hs hm ht hv hT)
  · rw [runW, ← hs]
structure Like (p : TaskP) (t : TaskD) : Prop where
  name : p.name = t.name
  nodes : p.nodes = t.nodes
  wall : p.wall = t.wall
  retry : p.retry = t.retry
  done : p.done = t.done
theorem task_run {s : St} {t : TaskD} (h0 : s.had 0 = true) (hn : taskName t.name = true) (hm : t.name ∉ namesP s.tasks) (hN : NumT t) : ∃ p, runW s (taskW t) = .ok { s with tasks := s.tasks ++ [p] } ∧ Like p t := by
  have hT4 := inR_T hN.n (by decide) (by decide)
  have hT5 := inR_T hN.w (by decide) (by decide)
  have hT6 := inR_T hN.r (by decide) (by decide)
  have r1 := runW_one (step_job h0 hn hm)
  have r2 := num_run (s := { s with tasks := s.tasks ++ [newTask t.name] }) (k := 4) (v := t.nodes) (ts := s.tasks) (x := newTask t.name) (Or.inl rfl) h0 rfl hm rfl hN.n hT4
  obtain ⟨x4, hx4⟩ : ∃ x, x = numT (newTask t.name) 4 t.nodes := ⟨_, rfl⟩
  have n4 : x4.name = t.name := by rw [hx4, numT_name]; rfl
  have r3 := num_run (s := { s with tasks := s.tasks ++ [x4] }) (k := 5) (v := t.wall) (ts := s.tasks) (x := x4) (Or.inr (Or.inl rfl)) h0 rfl (by rw [n4]; exact hm) (by rw [hx4]; exact numT_told rfl (by decide)) hN.w hT5
  obtain ⟨x5, hx5⟩ : ∃ x, x = numT x4 5 t.wall := ⟨_, rfl⟩
  have n5 : x5.name = t.name := by rw [hx5, numT_name, n4]
  have r4 := num_run (s := { s with tasks := s.tasks ++ [x5] }) (k := 6) (v := t.retry) (ts := s.tasks) (x := x5) (Or.inr (Or.inr rfl)) h0 rfl (by rw [n5]; exact hm) (by rw [hx5, hx4]; exact numT_told (numT_told rfl (by decide)) (by decide)) hN.r hT6
  obtain ⟨x6, hx6⟩ : ∃ x, x = numT x5 6 t.retry := ⟨_, rfl⟩
  have n6 : x6.name = t.name := by rw [hx6, numT_name, n5]
  rw [← hx4] at r2
  change runW _ (numW 4 t.nodes [t.name]) = _ at r2
  rw [← hx5, n4] at r3
  rw [← hx6, n5] at r4
  have f4 : x4.nodes = t.nodes ∧ x4.wall = 1 ∧ x4.retry = 0 ∧ x4.done = false := by
    rw [hx4]; unfold numT
    split
    · exact ⟨rfl, rfl, rfl, rfl⟩
    · rename_i h; simp only [ne_eq, Classical.not_not] at h; exact ⟨h.symm, rfl, rfl, rfl⟩
  have f5 : x5.nodes = t.nodes ∧ x5.wall = t.wall ∧ x5.retry = 0 ∧ x5.done = false := by
    rw [hx5]; unfold numT
    split
    · exact ⟨f4.1, rfl, f4.2.2⟩
    · rename_i h; simp only [ne_eq, Classical.not_not] at h; exact ⟨f4.1, f4.2.1.trans h.symm, f4.2.2⟩
  have f6 : x6.nodes = t.nodes ∧ x6.wall = t.wall ∧ x6.retry = t.retry ∧ x6.done = false := by
    rw [hx6]; unfold numT
    split
    · exact ⟨f5.1, f5.2.1, rfl, f5.2.2.2⟩
    · rename_i h; simp only [ne_eq, Classical.not_not] at h; exact ⟨f5.1, f5.2.1, f5.2.2.1.trans h.symm, f5.2.2.2⟩
  have e : taskW t = [[kwB 3, t.name]] ++ (numW 4 t.nodes [t.name] ++ (numW 5 t.wall [t.name] ++ (numW 6 t.retry [t.name] ++ if t.done = true then [[kwB 7, t.name]] else []))) := rfl
  rw [e, runW_app _ _ _ _ r1, runW_app _ _ _ _ r2, runW_app _ _ _ _ r3, runW_app _ _ _ _ r4]
  have t6 : x6.told 7 = false := by rw [hx6, hx5, hx4]; exact numT_told (numT_told (numT_told rfl (by decide)) (by decide)) (by decide)
  have hd : t.done = true ∨ t.done = false := by cases t.done <;> simp
  rcases hd with hd | hd
  · rw [if_pos hd]
    have r5 := step_done (s := { s with tasks := s.tasks ++ [x6] }) (ts := s.tasks) (x := x6) h0 rfl (by rw [n6]; exact hm) t6
    rw [n6] at r5
    exact ⟨_, runW_one r5, n6, f6.1, f6.2.1, f6.2.2.1, hd.symm⟩
  · rw [if_neg (by simp [hd])]
    exact ⟨x6, rfl, n6, f6.1, f6.2.1, f6.2.2.1, f6.2.2.2.trans hd.symm⟩
theorem tasks_run : ∀ (ts : List TaskD) (s : St), s.had 0 = true → (namesP s.tasks ++ names ts).Nodup → (∀ t ∈ ts, taskName t.name = true ∧ NumT t) →
    ∃ ps, runW s (flatW taskW ts) = .ok { s with tasks := s.tasks ++ ps } ∧ ps.length = ts.length ∧ ∀ (i : Nat) p t, ps[i]? = some p → ts[i]? = some t → Like p t
  | [], s, h0, hd, hok => ⟨[], by rw [flatW, runW]; simp, rfl, fun i p t h => by simp at h⟩
  | t :: ts, s, h0, hd, hok => by
    have hm : t.name ∉ namesP s.tasks := fun hm => by
      have := (List.nodup_append.1 hd).2.2 _ hm t.name (by simp [names])
      exact this rfl
    obtain ⟨p, r1, hl⟩ := task_run h0 (hok t (by simp)).1 hm (hok t (by simp)).2
    have e : namesP (s.tasks ++ [p]) = namesP s.tasks ++ [t.name] := by simp [namesP, hl.name]
    obtain ⟨ps, r2, h2, h3⟩ := tasks_run ts { s with tasks := s.tasks ++ [p] } h0 (by
      show (namesP (s.tasks ++ [p]) ++ names ts).Nodup
      rw [e, List.append_assoc]; exact hd) fun x hx => hok x (List.mem_cons_of_mem _ hx)
    refine ⟨p :: ps, ?_, by simp [h2], fun i q u hq hu => ?_⟩
    · rw [flatW, runW_app _ _ _ _ r1, r2]; simp
    · cases i with
      | zero => simp at hq hu; subst hq hu; exact hl
      | succ i => exact h3 i q u (by simpa using hq) (by simpa using hu)

/-! links -/
def lksOf (ns : List (List UInt8)) (t : TaskD) : List (List Nat × List Nat) := if t.after = [] then [] else [(t.after.map Int.toNat, [ns.idxOf t.name])]
theorem idx_at {ts : List TaskD} (hd : (names ts).Nodup) {i : Nat} {t : TaskD} (h : ts[i]? = some t) : (names ts).idxOf t.name = i ∧ t.name ∈ names ts := by
  obtain ⟨hi, he⟩ := List.getElem?_eq_some_iff.1 h
  have e : (names ts)[i]'(by simpa [names] using hi) = t.name := by simp [names, he]
  refine ⟨?_, List.mem_map_of_mem (List.mem_of_getElem? h)⟩
  rw [← e]
  exact List.Nodup.idxOf_getElem hd i (by simpa [names] using hi)
theorem find_at {α : Type} {p : α → Bool} {a : List α} {x : α} {b : List α} (ha : ∀ y ∈ a, p y = false) (hx : p x = true) : (a ++ x :: b).findIdx p = a.length := by
  induction a with
  | nil => simp [List.findIdx_cons, hx]
  | cons y a ih =>
    rw [List.cons_append, List.findIdx_cons, ha y (by simp), ih fun z hz => ha z (List.mem_cons_of_mem _ hz)]
    simp
theorem idx_first {a : List (List UInt8)} {x : List UInt8} {b : List (List UInt8)} (ha : x ∉ a) : (a ++ x :: b).idxOf x = a.length := by
  rw [List.idxOf_append, if_neg ha]; simp
theorem child_self : isChild childW = true := by decide
theorem class_par {qs : List (List UInt8)} {n : List UInt8} (h0 : qs ≠ []) (ha : ∀ a ∈ qs, isChild a = false) (hn : isChild n = false) : classD (kwB 8) (qs ++ [childW, n]) = some (8, qs ++ [childW, n]) := by
  have hl : 0 < qs.length := List.length_pos_iff.2 h0
  have e : famD (qs ++ [childW, n]) = some (qs ++ [childW, n]) := by
    unfold famD
    simp only
    rw [find_at ha child_self, if_neg]
    · congr 1
      rw [List.set_append_right _ _ (Nat.le_refl _)]
      simp
    · rw [List.drop_append]
      simp [hn]
      exact ⟨h0, fun x hx => by rw [List.drop_eq_nil_of_le (Nat.le_succ _)] at hx; cases hx⟩
  unfold classD
  rw [key_kw 8 (by decide), e]
  rfl
theorem step_par {s : St} {ts : List TaskD} {t : TaskD} (h0 : s.had 0 = true) (hs : namesP s.tasks = names ts) (hd : (names ts).Nodup) (hc : ∀ u ∈ ts, isChild u.name = false) (ht : t ∈ ts) (hne : t.after ≠ []) (hin : ∀ v ∈ t.after, 0 ≤ v ∧ v.toNat < ts.length) :
    addW s (kwB 8) (t.after.map (nameAt ts) ++ [childW, t.name]) = .ok { s with links := s.links ++ [(t.after.map Int.toNat, [(names ts).idxOf t.name])] } := by
  have hat : ∀ v ∈ t.after, ∃ u, u ∈ ts ∧ nameAt ts v = u.name ∧ (names ts).idxOf (nameAt ts v) = v.toNat ∧ nameAt ts v ∈ names ts := fun v hv => by
    have hlt := (hin v hv).2
    have hg : ts[v.toNat]? = some ts[v.toNat] := List.getElem?_eq_getElem hlt
    have e : nameAt ts v = (ts[v.toNat]).name := by unfold nameAt; rw [hg]
    have := idx_at hd hg
    exact ⟨_, List.getElem_mem hlt, e, by rw [e]; exact this.1, by rw [e]; exact this.2⟩
  have hch : ∀ a ∈ t.after.map (nameAt ts), isChild a = false := fun a ha => by
    obtain ⟨v, hv, rfl⟩ := List.mem_map.1 ha
    obtain ⟨u, hu, e, _⟩ := hat v hv
    rw [e]; exact hc u hu
  have hcm : childW ∉ t.after.map (nameAt ts) := fun hm => by have := hch _ hm; rw [child_self] at this; cases this
  unfold addW
  rw [class_par (by simpa using hne) hch (hc t ht)]
  simp only
  unfold addSt
  rw [if_neg (by simp [h0]), if_pos rfl]
  unfold parSt
  rw [idx_first hcm, hs]
  have e1 : idxs (names ts) ((t.after.map (nameAt ts) ++ [childW, t.name]).take (t.after.map (nameAt ts)).length) = some (t.after.map Int.toNat) := by
    rw [List.take_left]
    unfold idxs
    rw [if_pos (List.all_eq_true.2 fun a ha => by
      obtain ⟨v, hv, rfl⟩ := List.mem_map.1 ha
      obtain ⟨u, hu, e, _, hm⟩ := hat v hv
      exact decide_eq_true hm)]
    congr 1
    rw [List.map_map]
    apply List.map_congr_left
    intro v hv
    exact (hat v hv).choose_spec.2.2.1
  have e2 : idxs (names ts) ((t.after.map (nameAt ts) ++ [childW, t.name]).drop ((t.after.map (nameAt ts)).length + 1)) = some [(names ts).idxOf t.name] := by
    rw [List.drop_append, List.drop_of_length_le (by omega)]
    rw [show (t.after.map (nameAt ts)).length + 1 - (t.after.map (nameAt ts)).length = 1 by omega]
    unfold idxs
    rw [if_pos (List.all_eq_true.2 fun a ha => by
      simp at ha
      subst ha
      exact decide_eq_true (List.mem_map_of_mem (f := TaskD.name) ht))]
    rfl
  rw [e1, e2]
theorem pars_run {ts : List TaskD} (hd : (names ts).Nodup) (hc : ∀ u ∈ ts, isChild u.name = false) (hin : ∀ t ∈ ts, ∀ v ∈ t.after, 0 ≤ v ∧ v.toNat < ts.length) : ∀ (us : List TaskD) (s : St), (∀ u ∈ us, u ∈ ts) → s.had 0 = true → namesP s.tasks = names ts →
    runW s (flatW (parW ts) us) = .ok { s with links := s.links ++ flatW (lksOf (names ts)) us }
  | [], s, _, _, _ => by rw [flatW, runW, flatW]; simp
  | u :: us, s, hu, h0, hs => by
    rw [flatW, flatW]
    unfold parW lksOf
    split
    · rw [List.nil_append, List.nil_append]
      exact pars_run hd hc hin us s (fun x hx => hu x (List.mem_cons_of_mem _ hx)) h0 hs
    · rename_i hne
      rw [runW_app _ _ _ _ (runW_one (step_par h0 hs hd hc (hu u (by simp)) hne (hin u (hu u (by simp)))))]
      have := pars_run hd hc hin us { s with links := s.links ++ [(u.after.map Int.toNat, [(names ts).idxOf u.name])] } (fun x hx => hu x (List.mem_cons_of_mem _ hx)) h0 hs
      unfold parW lksOf at this
      rw [this]
      simp

theorem sorted_eq : ∀ (a b : List Nat), a.Pairwise (· < ·) → b.Pairwise (· < ·) → (∀ x, x ∈ a ↔ x ∈ b) → a = b
  | [], [], _, _, _ => rfl
  | [], y :: b, _, _, h => by have := (h y).2 (by simp); cases this
  | x :: a, [], _, _, h => by have := (h x).1 (by simp); cases this
  | x :: a, y :: b, ha, hb, h => by
    have ha' := List.pairwise_cons.1 ha
    have hb' := List.pairwise_cons.1 hb
    have e : x = y := by
      rcases List.mem_cons.1 ((h x).1 (by simp)) with e | e
      · exact e
      · rcases List.mem_cons.1 ((h y).2 (by simp)) with e2 | e2
        · exact e2.symm
        · have := hb'.1 x e; have := ha'.1 y e2; omega
    subst e
    rw [sorted_eq a b ha'.2 hb'.2 fun z => ?_]
    constructor
    · intro hz
      rcases List.mem_cons.1 ((h z).1 (List.mem_cons_of_mem _ hz)) with e | e
      · subst e; have := ha'.1 z hz; omega
      · exact e
    · intro hz
      rcases List.mem_cons.1 ((h z).2 (List.mem_cons_of_mem _ hz)) with e | e
      · subst e; have := hb'.1 z hz; omega
      · exact e
theorem rise_pw {n : Nat} : ∀ (l : List Int) (L : Int), riseL n L l = true → l.Pairwise (· < ·)
  | [], _, _ => List.Pairwise.nil
  | x :: l, L, h => by
    rw [riseL] at h
    simp only [Bool.and_eq_true, decide_eq_true_eq] at h
    exact List.pairwise_cons.2 ⟨fun y hy => (rise_in l x h.2.2 y hy).1, rise_pw l x h.2.2⟩
theorem rise_filter {n : Nat} {l : List Int} (h : linkOK n l = true) (p : Nat → Bool) (hp : ∀ v, v < n → (p v = true ↔ v ∈ l.map Int.toNat)) : num ((List.range n).filter p) = l := by
  have hin := rise_in l (-1) h
  have e : (List.range n).filter p = l.map Int.toNat := by
    apply sorted_eq
    · exact List.Pairwise.filter _ List.pairwise_lt_range
    · have := rise_pw l (-1) h
      rw [List.pairwise_map]
      refine List.Pairwise.imp_of_mem (fun {a b} ha hb hab => ?_) this
      have h1 := hin a ha; have h2 := hin b hb
      omega
    · intro x
      rw [List.mem_filter, List.mem_range]
      constructor
      · rintro ⟨h1, h2⟩; exact (hp x h1).1 h2
      · intro hx
        obtain ⟨v, hv, rfl⟩ := List.mem_map.1 hx
        have := hin v hv
        have hlt : v.toNat < n := by omega
        exact ⟨hlt, (hp _ hlt).2 (List.mem_map_of_mem hv)⟩
  rw [e]
  unfold num
  rw [List.map_map]
  conv => rhs; rw [← List.map_id l]
  apply List.map_congr_left
  intro v hv
  have := hin v hv
  simp; omega
theorem aft_of {ts : List TaskD} (hd : (names ts).Nodup) {w : Nat} {t : TaskD} (ht : ts[w]? = some t) (v : Nat) :
    ((flatW (lksOf (names ts)) ts).any fun k => decide (v ∈ k.1) && decide (w ∈ k.2)) = true ↔ v ∈ t.after.map Int.toNat := by
  rw [List.any_eq_true]
  constructor
  · rintro ⟨k, hk, hv⟩
    obtain ⟨u, hu, hk⟩ := flatW_mem.1 hk
    unfold lksOf at hk
    split at hk
    · cases hk
    · simp at hk
      subst hk
      simp only [Bool.and_eq_true, decide_eq_true_eq, List.mem_singleton] at hv
      obtain ⟨j, hj⟩ := List.getElem?_of_mem hu
      have := (idx_at hd hj).1
      have hwj : w = j := hv.2.trans this
      subst hwj
      rw [ht] at hj
      injection hj with hj
      subst hj
      exact hv.1
  · intro hv
    have hne : t.after ≠ [] := fun e => by rw [e] at hv; cases hv
    refine ⟨(t.after.map Int.toNat, [(names ts).idxOf t.name]), flatW_mem.2 ⟨t, List.mem_of_getElem? ht, by unfold lksOf; rw [if_neg hne]; simp⟩, ?_⟩
    simp only [Bool.and_eq_true, decide_eq_true_eq, List.mem_singleton]
    exact ⟨hv, (idx_at hd ht).1.symm⟩
theorem fullL_at (links : List (List Nat × List Nat)) (n : Nat) : ∀ (ps : List TaskP) (w i : Nat), (fullL links n w ps)[i]? = (ps[i]?).map (TaskP.full links n (w + i))
  | [], w, i => by simp [fullL]
  | p :: ps, w, 0 => by simp [fullL]
  | p :: ps, w, i + 1 => by
    rw [fullL, List.getElem?_cons_succ, List.getElem?_cons_succ, fullL_at links n ps (w + 1) i]
    congr 2; omega
theorem full_eq {ts : List TaskD} {ps : List TaskP} (hd : (names ts).Nodup) (hl : ps.length = ts.length) (hk : linksOK ts = true) (h : ∀ (i : Nat) p t, ps[i]? = some p → ts[i]? = some t → Like p t) : fullL (flatW (lksOf (names ts)) ts) ts.length 0 ps = ts := by
  apply List.ext_getElem?
  intro i
  rw [fullL_at]
  rcases Nat.lt_or_ge i ts.length with hi | hi
  · obtain ⟨p, hp⟩ : ∃ p, ps[i]? = some p := ⟨_, List.getElem?_eq_getElem (by omega)⟩
    obtain ⟨t, ht⟩ : ∃ t, ts[i]? = some t := ⟨_, List.getElem?_eq_getElem hi⟩
    have hL := h i p t hp ht
    rw [hp, ht]
    simp only [Option.map_some, Option.some.injEq]
    unfold TaskP.full
    obtain ⟨a1, a2, a3, a4, a5, a6⟩ := t
    rw [hL.name, hL.nodes, hL.wall, hL.retry, hL.done]
    simp only [TaskD.mk.injEq, true_and]
    unfold aft
    exact rise_filter (List.all_eq_true.1 hk _ (List.mem_of_getElem? ht)) _ fun v _ => by rw [Nat.zero_add]; exact aft_of hd ht v
  · rw [List.getElem?_eq_none (by omega), List.getElem?_eq_none (by omega)]; rfl

theorem nodup_of {ts : List TaskD} (h : twins ts = false) : (names ts).Nodup := by
  unfold twins at h
  simp only [Bool.not_eq_false', decide_eq_true_eq] at h
  exact h
theorem head_run {f : FlowD} (h : Fine f) : ∃ had, had 0 = true ∧ runW St.start ([[kwB 0, f.name]] ++ (numW 1 f.deadline [] ++ numW 2 f.priority [])) = .ok ⟨f.name, f.deadline, f.priority, had, [], []⟩ := by
  have hT1 := inR_T h.dl.1 (by decide) (by decide)
  have hT2 := inR_T h.dl.2 (by decide) (by decide)
  rw [runW_app _ _ _ _ (runW_one (step_begin h.name))]
  have r1 : ∃ had, had 0 = true ∧ had 2 = false ∧ runW { St.start with name := f.name, had := upB no9 0 } (numW 1 f.deadline []) = .ok ⟨f.name, f.deadline, 0, had, [], []⟩ := by
    unfold numW
    split
    · have := step_set (s := { St.start with name := f.name, had := upB no9 0 }) (k := 1) (Or.inl rfl) rfl rfl h.dl.1 hT1
      exact ⟨_, rfl, rfl, runW_one this⟩
    · rename_i e
      simp only [ne_eq, Classical.not_not] at e
      refine ⟨upB no9 0, rfl, rfl, ?_⟩
      rw [runW, e]; rfl
  obtain ⟨had, a0, a2, r1⟩ := r1
  rw [runW_app _ _ _ _ r1]
  unfold numW
  split
  · have := step_set (s := ⟨f.name, f.deadline, 0, had, [], []⟩) (k := 2) (Or.inr rfl) a0 a2 h.dl.2 hT2
    exact ⟨upB had 2, by unfold upB; rw [a0]; simp, runW_one this⟩
  · rename_i e
    simp only [ne_eq, Classical.not_not] at e
    refine ⟨had, a0, ?_⟩
    rw [runW, e]; rfl
/-- the lines of a workflow's text, taken in -/
theorem flow_run {f : FlowD} (h : Fine f) : ∃ s, runW St.start (flowW f) = .ok s ∧ s.had 0 = true ∧ s.flow = f ∧ namesP s.tasks = names f.tasks := by
  have hd := nodup_of h.twins
  obtain ⟨had, h0, r1⟩ := head_run h
  obtain ⟨ps, r2, hl, hp⟩ := tasks_run f.tasks ⟨f.name, f.deadline, f.priority, had, [], []⟩ h0 (by simpa [namesP] using hd) fun t ht => ⟨h.names t ht, h.numT ht⟩
  have hn : namesP ps = names f.tasks := by
    apply List.ext_getElem?
    intro i
    unfold namesP names
    rw [List.getElem?_map, List.getElem?_map]
    rcases Nat.lt_or_ge i f.tasks.length with hi | hi
    · obtain ⟨p, hp1⟩ : ∃ p, ps[i]? = some p := ⟨_, List.getElem?_eq_getElem (by omega)⟩
      obtain ⟨t, ht⟩ : ∃ t, f.tasks[i]? = some t := ⟨_, List.getElem?_eq_getElem hi⟩
      rw [hp1, ht]
      simp [(hp i p t hp1 ht).name]
    · rw [List.getElem?_eq_none (by omega), List.getElem?_eq_none (by omega)]; rfl
  have r3 := pars_run hd (fun u hu => by have := (h.tname hu).2; unfold isChild; exact this) (fun t ht => h.ain ht) f.tasks ⟨f.name, f.deadline, f.priority, had, ps, []⟩ (fun u hu => hu) h0 hn
  refine ⟨⟨f.name, f.deadline, f.priority, had, ps, flatW (lksOf (names f.tasks)) f.tasks⟩, ?_, h0, ?_, hn⟩
  · have e : flowW f = ([[kwB 0, f.name]] ++ (numW 1 f.deadline [] ++ numW 2 f.priority [])) ++ (flatW taskW f.tasks ++ flatW (parW f.tasks) f.tasks) := by
      unfold flowW
      simp
    rw [e, runW_app _ _ _ _ r1, runW_app _ _ _ _ r2]
    simpa using r3
  · unfold St.flow
    simp only
    rw [hl, full_eq hd hl h.links hp]

/-- a text whose lines say what a workflow's say is that workflow -/
theorem parse_words {f : FlowD} (h : checkE f = 0) {l : List UInt8} (hE : linesE l = 0) (hw : ∀ x ∈ linesV l, wordsE x = 0) (hW : ((linesV l).map wordsV).filter (fun ws => decide (ws ≠ [])) = flowW f) : parseD l = (f, 0, 0) := by
  obtain ⟨s, r, h0, hf, _⟩ := flow_run (fine_of h)
  rw [← hW, runW_skip] at r
  have := feed_run (linesV l) St.start s 0 [] hw r
  rw [List.append_nil] at this
  unfold parseD
  rw [if_neg (by simp [hE]), this]
  simp only [feed]
  rw [if_neg (by simp [h0]), hf, if_neg (by simp [h])]
theorem print_lines {f : FlowD} (h : Fine f) : linesA (printL f) [] = (flowW f).map joinL ∧ validD (printL f) = true := by
  have hg := h.good
  rw [print_cat]
  refine ⟨Txt.linesA_of_cat _ fun l hl => ?_, catL_valid _ fun l hl => ?_⟩
  · obtain ⟨ws, hws, rfl⟩ := List.mem_map.1 hl
    exact (line_good (hg ws hws).2).2.2.1
  · obtain ⟨ws, hws, rfl⟩ := List.mem_map.1 hl
    exact (line_good (hg ws hws).2).1
theorem words_back {f : FlowD} (h : Fine f) : ((flowW f).map joinL).map wordsV = flowW f ∧ ∀ x ∈ (flowW f).map joinL, wordsE x = 0 := by
  have hg := h.good
  refine ⟨?_, fun x hx => ?_⟩
  · rw [List.map_map]
    conv => rhs; rw [← List.map_id (flowW f)]
    exact List.map_congr_left fun ws hws => (line_good (hg ws hws).2).2.2.2.2
  · obtain ⟨ws, hws, rfl⟩ := List.mem_map.1 hx
    exact (line_good (hg ws hws).2).2.2.2.1
theorem print_back {f : FlowD} (h : checkE f = 0) (hl : (printL f).length ≤ 60000) : parseD (printL f) = (f, 0, 0) := by
  have hF := fine_of h
  obtain ⟨p1, p2⟩ := print_lines hF
  obtain ⟨b1, b2⟩ := words_back hF
  obtain ⟨y1, y2⟩ := Txt.linesV_yes (l := printL f) (by omega) p2
  refine parse_words h y2 (by rw [y1, p1]; exact b2) ?_
  rw [y1, p1, b1]
  exact List.filter_eq_self.2 fun ws hws => decide_eq_true (hF.good ws hws).1
theorem print_inj {f g : FlowD} (hf : checkE f = 0) (hg : checkE g = 0) (hl : (printL f).length ≤ 60000) (h : printL f = printL g) : f = g := by
  have h1 := print_back hf hl
  have h2 := print_back hg (by rw [← h]; exact hl)
  rw [h, h2] at h1
  injection h1 with h1
  exact h1.symm

end Go.Proofs.YtkcijibkloamkaaGreatDoor

/- How long a workflow's text is. No program. -/
namespace Go.Proofs.YtkcijibkloamkaaGreatDoor
open Txt (nameD dec sameS joinL linesA wordsA linesE linesV wordsE wordsV catL Word gap ctl ctlL)
open Clk (isT readE readV textL txt)
set_option linter.unusedVariables false
set_option maxRecDepth 100000

def nmS : List TaskD → Nat
  | [] => 0
  | t :: r => t.name.length + nmS r
def afS : List TaskD → Nat
  | [] => 0
  | t :: r => t.after.length + afS r
theorem size_parts (l : List TaskD) : sizeT l = l.length + nmS l + afS l := by
  induction l with
  | nil => rfl
  | cons t l ih => simp only [sizeT, nmS, afS, List.length_cons, ih]; omega
theorem nmS_app (a b : List TaskD) : nmS (a ++ b) = nmS a + nmS b := by
  induction a with
  | nil => simp [nmS]
  | cons t a ih => simp only [List.cons_append, nmS, ih]; omega
theorem nmS_snoc {l : List TaskD} {k : Nat} {x : TaskD} (h : l[k]? = some x) : nmS (l.take (k + 1)) = nmS (l.take k) + x.name.length := by
  rw [List.take_add_one, h, nmS_app]; simp [nmS]
theorem nmS_take (l : List TaskD) (k : Nat) : nmS (l.take k) ≤ nmS l := by
  conv => rhs; rw [← List.take_append_drop k l, nmS_app]
  omega
theorem nmS_mono (l : List TaskD) {j k : Nat} (h : j ≤ k) : nmS (l.take j) ≤ nmS (l.take k) := by
  have := nmS_take (l.take k) j
  rwa [List.take_take, Nat.min_eq_left h] at this
theorem rise_sum {ts : List TaskD} : ∀ (l : List Int) (L : Int), -1 ≤ L → riseL ts.length L l = true → (flatL (fun v => nameAt ts v) l).length + nmS (ts.take (L + 1).toNat) ≤ nmS ts
  | [], L, _, _ => by simpa [flatL] using nmS_take ts _
  | x :: l, L, hL, h => by
    have h' := h
    rw [riseL] at h'
    simp only [Bool.and_eq_true, decide_eq_true_eq] at h'
    obtain ⟨h1, h2, h3⟩ := h'
    have ih := rise_sum l x (by omega) h3
    have hlt : x.toNat < ts.length := by omega
    obtain ⟨t, ht⟩ : ∃ t, ts[x.toNat]? = some t := ⟨_, List.getElem?_eq_getElem hlt⟩
    have e : (x + 1).toNat = x.toNat + 1 := by omega
    rw [e, nmS_snoc ht] at ih
    have hn : nameAt ts x = t.name := by unfold nameAt; rw [ht]
    have hm := nmS_mono ts (show (L + 1).toNat ≤ x.toNat by omega)
    simp only [flatL, List.length_append, hn]
    omega
theorem textL13 {x : Int} (h : isT x = true) : (textL x).length ≤ 13 := by
  have b := Clk.isT_bd h
  rw [Clk.textL_yes h]
  exact Clk.txt_bound (by omega)
theorem numL13 {x : Int} (h : isT x = true) (k : Nat) (pre : List (List UInt8)) : (numL k x pre).length ≤ 34 + sumW pre := by
  unfold numL
  split
  · have := lnL_len k (pre ++ [textL x])
    have h2 := textL13 h
    rw [sumW_app] at this
    simp only [sumW] at this
    omega
  · simp
theorem task13 {t : TaskD} (h : NumT t) : (taskL t).length ≤ 5 * t.name.length + 160 := by
  have h4 := numL13 (inR_T h.n (by decide) (by decide)) 4 [t.name]
  have h5 := numL13 (inR_T h.w (by decide) (by decide)) 5 [t.name]
  have h6 := numL13 (inR_T h.r (by decide) (by decide)) 6 [t.name]
  have h3 := lnL_len 3 [t.name]
  have h7 := lnL_len 7 [t.name]
  simp only [sumW] at h3 h4 h5 h6 h7
  unfold taskL
  cases t.done <;> simp only [List.length_append, if_true, Bool.false_eq_true, if_false, List.length_nil] <;> omega
theorem sumW_names {ts : List TaskD} (l : List Int) : sumW (l.map (nameAt ts)) = (flatL (fun v => nameAt ts v) l).length + l.length := by
  induction l with
  | nil => rfl
  | cons x l ih => simp only [List.map_cons, sumW, flatL, List.length_append, List.length_cons, ih]; omega
theorem par13 {ts : List TaskD} {t : TaskD} (h : linkOK ts.length t.after = true) : (parL ts t).length ≤ 40 + nmS ts + t.after.length + t.name.length := by
  unfold parL
  split
  · simp
  · have h1 := lnL_len 8 (t.after.map (nameAt ts) ++ [childW, t.name])
    have h2 := rise_sum t.after (-1) (by omega) h
    rw [sumW_app, sumW_names] at h1
    simp only [sumW] at h1
    have hc : childW.length = 5 := rfl
    have h3 : nmS (ts.take ((-1 : Int) + 1).toNat) = 0 := by simp [nmS]
    omega
theorem tasks13 {l : List TaskD} (h : ∀ t ∈ l, NumT t) : (flatL taskL l).length ≤ 5 * nmS l + 160 * l.length := by
  induction l with
  | nil => simp [flatL]
  | cons t l ih =>
    have h1 := task13 (h t (by simp))
    have h2 := ih fun x hx => h x (List.mem_cons_of_mem _ hx)
    simp only [flatL, nmS, List.length_append, List.length_cons]
    omega
theorem pars13 {ts : List TaskD} {l : List TaskD} (h : ∀ t ∈ l, linkOK ts.length t.after = true) : (flatL (parL ts) l).length ≤ l.length * (40 + nmS ts) + afS l + nmS l := by
  induction l with
  | nil => simp [flatL]
  | cons t l ih =>
    have h1 := par13 (h t (by simp))
    have h2 := ih fun x hx => h x (List.mem_cons_of_mem _ hx)
    simp only [flatL, nmS, afS, List.length_append, List.length_cons, Nat.add_mul, Nat.one_mul] at h2 ⊢
    omega
theorem print_len {f : FlowD} (h : checkE f = 0) (hl : longD f = false) : (printL f).length ≤ 60000 := by
  have hF := fine_of h
  obtain ⟨hn, hz⟩ := longD_no hl
  unfold sizeD at hz
  rw [size_parts] at hz
  have h0 := lnL_len 0 [f.name]
  have h1 := numL13 (inR_T hF.dl.1 (by decide) (by decide)) 1 []
  have h2 := numL13 (inR_T hF.dl.2 (by decide) (by decide)) 2 []
  have h3 := tasks13 (l := f.tasks) fun t ht => hF.numT ht
  have h4 := pars13 (ts := f.tasks) (l := f.tasks) fun t ht => List.all_eq_true.1 hF.links t ht
  have h5 : f.tasks.length * (40 + nmS f.tasks) ≤ 30 * 540 := Nat.mul_le_mul hn (by omega)
  simp only [sumW] at h0 h1 h2
  unfold printL
  simp only [List.length_append]
  omega

end Go.Proofs.YtkcijibkloamkaaGreatDoor


