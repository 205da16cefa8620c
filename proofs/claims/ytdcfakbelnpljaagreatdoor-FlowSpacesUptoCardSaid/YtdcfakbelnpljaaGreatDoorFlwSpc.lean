/- A workflow's text with blanks, notes and empty lines among its lines: in plain words. No program. -/
import Derived.Test.YtdcfakbelnpljaaGreatDoorFlwMore
import Derived.Test.YtdcfakbelnpljaaGreatDoorFlwLen
namespace Go.Proofs.YtdcfakbelnpljaaGreatDoor
open Txt (nameD dec sameS joinL linesA wordsA linesE linesV wordsE wordsV catL Word gap ctl ctlL)
open Clk (isT readE readV textL txt)
open Go.Lib (validD decodeL)
set_option linter.unusedVariables false
set_option maxRecDepth 100000

def spB (m : List UInt8) (b : UInt8) : List UInt8 := if b = 32 then [32, 9, 32] else if b = 10 then [32, 32, 35, 32] ++ m ++ [10, 10] else [b]
def spT (m : List UInt8) : List UInt8 → List UInt8
  | [] => []
  | b :: r => spB m b ++ spT m r
theorem spT_app (m a b : List UInt8) : spT m (a ++ b) = spT m a ++ spT m b := by
  induction a with
  | nil => rfl
  | cons x a ih => simp only [List.cons_append, spT, ih, List.append_assoc]
theorem spT_snoc {m S : List UInt8} {k : Nat} {b : UInt8} (h : S[k]? = some b) : spT m (S.take (k + 1)) = spT m (S.take k) ++ spB m b := by
  rw [List.take_add_one, h, spT_app]; simp [spT]
theorem spT_plain {m a : List UInt8} (h : ∀ b ∈ a, b ≠ 32 ∧ b ≠ 10) : spT m a = a := by
  induction a with
  | nil => rfl
  | cons x a ih =>
    have hx := h x (by simp)
    rw [spT, ih fun b hb => h b (List.mem_cons_of_mem _ hb)]
    unfold spB
    rw [if_neg hx.1, if_neg hx.2]; rfl
theorem spB_len (m : List UInt8) (b : UInt8) : (spB m b).length ≤ m.length + 6 := by
  unfold spB
  split
  · simp
  · split
    · simp
    · simp
theorem spT_len (m : List UInt8) : ∀ l : List UInt8, (spT m l).length ≤ l.length * (m.length + 6)
  | [] => Nat.zero_le _
  | b :: l => by
    have h1 := spB_len m b
    have h2 := spT_len m l
    rw [spT, List.length_append, List.length_cons, Nat.add_mul, Nat.one_mul]; omega
/-- words, wide apart -/
def spJ : List (List UInt8) → List UInt8
  | [] => []
  | [w] => w
  | w :: z :: r => w ++ [32, 9, 32] ++ spJ (z :: r)
theorem okB_plain {w : List UInt8} (h : GW w) : ∀ b ∈ w, b ≠ 32 ∧ b ≠ 10 := fun b hb => by
  have := okB_at (h.byt b hb)
  exact ⟨fun e => by subst e; exact absurd this.1 (by decide), fun e => by subst e; exact absurd this.1 (by decide)⟩
theorem spT_join (m : List UInt8) : ∀ ws : List (List UInt8), (∀ w ∈ ws, GW w) → spT m (joinL ws) = spJ ws
  | [], _ => rfl
  | [w], h => by rw [joinL, spJ]; exact spT_plain (okB_plain (h w (by simp)))
  | w :: z :: r, h => by
    have ih := spT_join m (z :: r) fun x hx => h x (List.mem_cons_of_mem _ hx)
    have e : joinL (w :: z :: r) = w ++ ([32] ++ joinL (z :: r)) := by simp [joinL]
    rw [e, spT_app, spT_app, ih, spT_plain (okB_plain (h w (by simp))), spJ]
    have : spT m [32] = [32, 9, 32] := by simp [spT, spB]
    rw [this]; simp
theorem spJ_len : ∀ ws : List (List UInt8), (spJ ws).length ≤ (joinL ws).length + 2 * ws.length
  | [] => Nat.zero_le _
  | [w] => by simp [spJ, joinL]
  | w :: z :: r => by
    have ih := spJ_len (z :: r)
    simp only [spJ, joinL, List.length_append, List.length_cons, List.length_nil] at ih ⊢
    omega
def spLn (m : List UInt8) (ws : List (List UInt8)) : List UInt8 := spJ ws ++ ([32, 32, 35, 32] ++ m)
def spLs (m : List UInt8) : List (List (List UInt8)) → List (List UInt8)
  | [] => []
  | ws :: r => spLn m ws :: [] :: spLs m r
theorem spT_cat (m : List UInt8) : ∀ L : List (List (List UInt8)), (∀ ws ∈ L, ∀ w ∈ ws, GW w) → spT m (catL (L.map joinL)) = catL (spLs m L)
  | [], _ => rfl
  | ws :: r, h => by
    have ih := spT_cat m r fun x hx => h x (List.mem_cons_of_mem _ hx)
    rw [List.map_cons, catL, spT_app, show (10 : UInt8) :: catL (r.map joinL) = [10] ++ catL (r.map joinL) from rfl, spT_app, ih, spT_join m ws (h ws (by simp))]
    have : spT m [10] = [32, 32, 35, 32] ++ m ++ [10, 10] := by simp [spT, spB]
    rw [this, spLs, catL, catL]
    unfold spLn
    simp
/-- what a note may be -/
structure Note (m : List UInt8) : Prop where
  valid : validD m = true
  ctl : ctlL m = false
theorem Note.nl {m : List UInt8} (h : Note m) : ∀ b ∈ m, b ≠ 10 := fun b hb e => by
  subst e
  have := List.any_eq_false.1 h.ctl 10 hb
  exact this (by decide)
theorem note_of {m : List UInt8} (h : wordsE m = 0) : Note m := by
  unfold wordsE at h
  split at h
  · rename_i hh; exact ⟨hh.1, hh.2⟩
  · exact absurd h (by decide)
theorem wordsA_wide : ∀ (ws : List (List UInt8)) (m : List UInt8), (∀ w ∈ ws, GW w) → wordsA (spLn m ws) [] = ws
  | [], m, _ => by
    unfold spLn spJ
    simp [wordsA, gap]
  | [w], m, h => by
    have hw := (h w (by simp)).word
    unfold spLn
    rw [spJ, Txt.wordsA_word w _ hw.ne hw.free hw.head]
    have hne := hw.ne
    simp [wordsA, gap, hne]
  | w :: z :: r, m, h => by
    have hw := (h w (by simp)).word
    have ih := wordsA_wide (z :: r) m fun x hx => h x (List.mem_cons_of_mem _ hx)
    unfold spLn at ih ⊢
    rw [spJ, List.append_assoc, List.append_assoc, Txt.wordsA_word w _ hw.ne hw.free hw.head]
    have hne := hw.ne
    have e : ∀ t : List UInt8, wordsA ([32, 9, 32] ++ t) w = w :: wordsA t [] := fun t => by simp [wordsA, gap, hne]
    rw [e, ih]
theorem spJ_mem : ∀ (ws : List (List UInt8)), ∀ b ∈ spJ ws, b = 32 ∨ b = 9 ∨ ∃ w ∈ ws, b ∈ w
  | [], b, h => by simp [spJ] at h
  | [w], b, h => Or.inr (Or.inr ⟨w, by simp, h⟩)
  | w :: z :: r, b, h => by
    rw [spJ] at h
    rcases List.mem_append.1 h with h | h
    · rcases List.mem_append.1 h with h | h
      · exact Or.inr (Or.inr ⟨w, by simp, h⟩)
      · simp at h; rcases h with h | h | h
        · exact Or.inl h
        · exact Or.inr (Or.inl h)
        · exact Or.inl h
    · rcases spJ_mem (z :: r) b h with h | h | ⟨x, hx, h⟩
      · exact Or.inl h
      · exact Or.inr (Or.inl h)
      · exact Or.inr (Or.inr ⟨x, List.mem_cons_of_mem _ hx, h⟩)
theorem spJ_valid : ∀ ws : List (List UInt8), (∀ w ∈ ws, GW w) → validD (spJ ws) = true
  | [], _ => rfl
  | [w], h => (h w (by simp)).word.valid
  | w :: z :: r, h => by
    have ih := spJ_valid (z :: r) fun x hx => h x (List.mem_cons_of_mem _ hx)
    rw [spJ, List.append_assoc, Txt.valid_app _ (h w (by simp)).word.valid]
    simp only [List.cons_append, List.nil_append]
    rw [Lib.validD_cons 32 _ (by decide), Lib.validD_cons 9 _ (by decide), Lib.validD_cons 32 _ (by decide)]
    exact ih
theorem wide_good {m : List UInt8} (hm : Note m) {ws : List (List UInt8)} (h : ∀ w ∈ ws, GW w) : validD (spLn m ws) = true ∧ (∀ b ∈ spLn m ws, b ≠ 10) ∧ wordsE (spLn m ws) = 0 ∧ wordsV (spLn m ws) = ws := by
  have hv : validD (spLn m ws) = true := by
    unfold spLn
    rw [Txt.valid_app _ (spJ_valid ws h)]
    simp only [List.cons_append, List.nil_append]
    rw [Lib.validD_cons 32 _ (by decide), Lib.validD_cons 32 _ (by decide), Lib.validD_cons 35 _ (by decide), Lib.validD_cons 32 _ (by decide)]
    exact hm.valid
  have hb : ∀ b ∈ spLn m ws, ctl b = false ∧ b ≠ 10 := fun b hb => by
    unfold spLn at hb
    rcases List.mem_append.1 hb with hb | hb
    · rcases spJ_mem ws b hb with rfl | rfl | ⟨w, hw, hb⟩
      · exact ⟨by decide, by decide⟩
      · exact ⟨by decide, by decide⟩
      · have := (h w hw).byt b hb
        exact ⟨okB_ctl this, okB_nl this⟩
    · rcases List.mem_append.1 hb with hb | hb
      · have h3 : b = 32 ∨ b = 35 := by
          simp only [List.mem_cons, List.not_mem_nil, or_false] at hb
          rcases hb with h | h | h | h
          · exact Or.inl h
          · exact Or.inl h
          · exact Or.inr h
          · exact Or.inl h
        rcases h3 with rfl | rfl
        · exact ⟨by decide, by decide⟩
        · exact ⟨by decide, by decide⟩
      · have := List.any_eq_false.1 hm.ctl b hb
        exact ⟨by simpa using this, hm.nl b hb⟩
  have hc : ctlL (spLn m ws) = false := by
    unfold ctlL
    rw [List.any_eq_false]
    intro b h; rw [(hb b h).1]; simp
  have := Txt.wordsV_yes hv hc
  exact ⟨hv, fun b h => (hb b h).2, this.2, by rw [this.1]; exact wordsA_wide ws m h⟩
theorem head_good {m : List UInt8} (hm : Note m) : validD (35 :: m) = true ∧ (∀ b ∈ (35 : UInt8) :: m, b ≠ 10) ∧ wordsE (35 :: m) = 0 ∧ wordsV (35 :: m) = [] := by
  have hv : validD (35 :: m) = true := by rw [Lib.validD_cons 35 _ (by decide)]; exact hm.valid
  have hc : ctlL (35 :: m) = false := by
    have := hm.ctl
    unfold ctlL at this ⊢
    rw [List.any_cons, this]; decide
  have := Txt.wordsV_yes hv hc
  refine ⟨hv, fun b hb => ?_, this.2, by rw [this.1]; simp [wordsA, gap]⟩
  rcases List.mem_cons.1 hb with rfl | hb
  · decide
  · exact hm.nl b hb
theorem spLs_mem {m : List UInt8} : ∀ {L : List (List (List UInt8))} {x : List UInt8}, x ∈ spLs m L → x = [] ∨ ∃ ws ∈ L, x = spLn m ws
  | [], x, h => by simp [spLs] at h
  | ws :: r, x, h => by
    rw [spLs] at h
    rcases List.mem_cons.1 h with rfl | h
    · exact Or.inr ⟨ws, by simp, rfl⟩
    rcases List.mem_cons.1 h with rfl | h
    · exact Or.inl rfl
    · rcases spLs_mem h with e | ⟨y, hy, e⟩
      · exact Or.inl e
      · exact Or.inr ⟨y, List.mem_cons_of_mem _ hy, e⟩
theorem nil_words : wordsE [] = 0 ∧ wordsV [] = [] := by decide
theorem spLs_words {m : List UInt8} (hm : Note m) : ∀ {L : List (List (List UInt8))}, (∀ ws ∈ L, ws ≠ [] ∧ ∀ w ∈ ws, GW w) → ((spLs m L).map wordsV).filter (fun ws => decide (ws ≠ [])) = L
  | [], _ => rfl
  | ws :: r, h => by
    have ih := spLs_words hm (L := r) fun x hx => h x (List.mem_cons_of_mem _ hx)
    have h0 := h ws (by simp)
    rw [spLs, List.map_cons, List.map_cons, (wide_good hm h0.2).2.2.2, nil_words.2, List.filter_cons_of_pos (by simpa using h0.1), List.filter_cons_of_neg (by simp), ih]

/-! how long it is -/
def wc : List (List (List UInt8)) → Nat
  | [] => 0
  | ws :: r => ws.length + wc r
theorem wc_app (a b : List (List (List UInt8))) : wc (a ++ b) = wc a + wc b := by
  induction a with
  | nil => simp [wc]
  | cons x a ih => simp only [List.cons_append, wc, ih]; omega
theorem spLs_len (m : List UInt8) : ∀ L : List (List (List UInt8)), (catL (spLs m L)).length ≤ (catL (L.map joinL)).length + 2 * wc L + L.length * (m.length + 5)
  | [] => Nat.zero_le _
  | ws :: r => by
    have ih := spLs_len m r
    have h1 := spJ_len ws
    simp only [spLs, catL, spLn, List.map_cons, List.length_append, List.length_cons, List.length_nil, wc, Nat.add_mul, Nat.one_mul] at ih ⊢
    omega
theorem numW_c (k : Nat) (n : Int) (pre : List (List UInt8)) : wc (numW k n pre) ≤ pre.length + 2 ∧ (numW k n pre).length ≤ 1 := by
  unfold numW
  split
  · simp [wc]
  · simp [wc]
theorem taskW_c (t : TaskD) : wc (taskW t) ≤ 13 ∧ (taskW t).length ≤ 5 := by
  have h4 := numW_c 4 t.nodes [t.name]
  have h5 := numW_c 5 t.wall [t.name]
  have h6 := numW_c 6 t.retry [t.name]
  simp only [List.length_cons, List.length_nil] at h4 h5 h6
  unfold taskW
  simp only [wc, wc_app, List.length_cons, List.length_append, List.length_nil]
  split
  · simp only [wc, List.length_cons, List.length_nil]; omega
  · simp only [wc, List.length_nil]; omega
theorem tasksW_c : ∀ l : List TaskD, wc (flatW taskW l) ≤ 13 * l.length ∧ (flatW taskW l).length ≤ 5 * l.length
  | [] => ⟨Nat.zero_le _, Nat.zero_le _⟩
  | t :: l => by
    have h1 := taskW_c t
    have h2 := tasksW_c l
    simp only [flatW, wc_app, List.length_append, List.length_cons]
    omega
theorem parsW_c (ts : List TaskD) : ∀ l : List TaskD, wc (flatW (parW ts) l) ≤ afS l + 3 * l.length ∧ (flatW (parW ts) l).length ≤ l.length
  | [] => ⟨Nat.zero_le _, Nat.zero_le _⟩
  | t :: l => by
    have h2 := parsW_c ts l
    have h1 : wc (parW ts t) ≤ t.after.length + 3 ∧ (parW ts t).length ≤ 1 := by
      unfold parW
      split
      · simp [wc]
      · simp [wc]
    simp only [flatW, wc_app, List.length_append, List.length_cons, afS]
    omega
theorem flowW_c {f : FlowD} (hl : longD f = false) : wc (flowW f) ≤ 1100 ∧ (flowW f).length ≤ 190 := by
  obtain ⟨hn, hz⟩ := longD_no hl
  unfold sizeD at hz
  rw [size_parts] at hz
  have h1 := numW_c 1 f.deadline []
  have h2 := numW_c 2 f.priority []
  have h3 := tasksW_c f.tasks
  have h4 := parsW_c f.tasks f.tasks
  simp only [List.length_nil] at h1 h2
  unfold flowW
  simp only [wc, wc_app, List.length_cons, List.length_append, List.length_nil]
  omega
def wideL (m : List UInt8) (f : FlowD) : List UInt8 := 35 :: m ++ 10 :: spT m (printL f)
/-- blanks, empty lines and notes change nothing -/
theorem wide_back {f : FlowD} (h : checkE f = 0) (hl : longD f = false) {m : List UInt8} (hm : wordsE m = 0) (hml : m.length ≤ 100) : parseD (wideL m f) = (f, 0, 0) ∧ (wideL m f).length ≤ 60000 := by
  have hF := fine_of h
  have hg := hF.good
  have hN := note_of hm
  have hcat : wideL m f = catL ((35 :: m) :: spLs m (flowW f)) := by
    unfold wideL
    rw [print_cat, spT_cat m _ fun ws hws => (hg ws hws).2, catL]
  have hp := print_len2 h hl
  have hlen : (wideL m f).length ≤ 60000 := by
    have h1 := spLs_len m (flowW f)
    have h2 := flowW_c hl
    have h3 : (flowW f).length * (m.length + 5) ≤ 190 * 105 := Nat.mul_le_mul h2.2 (by omega)
    rw [print_cat] at hp
    rw [hcat, catL]
    simp only [List.length_append, List.length_cons]
    omega
  have hfree : ∀ x ∈ (35 :: m) :: spLs m (flowW f), validD x = true ∧ (∀ b ∈ x, b ≠ 10) ∧ wordsE x = 0 := fun x hx => by
    rcases List.mem_cons.1 hx with rfl | hx
    · have := head_good hN; exact ⟨this.1, this.2.1, this.2.2.1⟩
    · rcases spLs_mem hx with rfl | ⟨ws, hws, rfl⟩
      · exact ⟨rfl, fun b hb => (by cases hb), nil_words.1⟩
      · have := wide_good hN (hg ws hws).2; exact ⟨this.1, this.2.1, this.2.2.1⟩
  refine ⟨?_, hlen⟩
  have hval : validD (wideL m f) = true := by rw [hcat]; exact catL_valid _ fun x hx => (hfree x hx).1
  obtain ⟨y1, y2⟩ := Txt.linesV_yes (l := wideL m f) (by omega) hval
  have hlin : linesA (wideL m f) [] = (35 :: m) :: spLs m (flowW f) := by rw [hcat]; exact Txt.linesA_of_cat _ fun x hx => (hfree x hx).2.1
  rw [hlin] at y1
  refine parse_words h y2 (by rw [y1]; exact fun x hx => (hfree x hx).2.2) ?_
  rw [y1, List.map_cons, (head_good hN).2.2.2, List.filter_cons_of_neg (by simp)]
  exact spLs_words hN hg
end Go.Proofs.YtdcfakbelnpljaaGreatDoor
