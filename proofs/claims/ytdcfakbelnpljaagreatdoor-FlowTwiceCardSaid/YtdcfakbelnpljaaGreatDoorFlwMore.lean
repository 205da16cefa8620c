/- A workflow's text with something behind it, and with blanks, notes and empty lines in it: in plain words. No program. -/
import Derived.Test.YtdcfakbelnpljaaGreatDoorFlwBk3
namespace Go.Proofs.YtdcfakbelnpljaaGreatDoor
open Txt (nameD dec sameS joinL linesA wordsA linesE linesV wordsE wordsV catL Word gap ctl ctlL)
open Clk (isT readE readV textL txt)
open Dag (num)
open Go.Lib (validD decodeL)
set_option linter.unusedVariables false
set_option maxRecDepth 100000

theorem print_len2 {f : FlowD} (h : checkE f = 0) (hl : longD f = false) : (printL f).length ≤ 26000 := by
  have hF := fine_of h
  obtain ⟨hn, hz⟩ := longD_no hl
  unfold sizeD at hz
  rw [size_parts] at hz
  have h0 := lnL_len 0 [f.name]
  have h1 := numL13 (inR_T hF.dl.1 (by decide) (by decide)) 1 []
  have h2 := numL13 (inR_T hF.dl.2 (by decide) (by decide)) 2 []
  have h3 := tasks13 (l := f.tasks) fun t ht => hF.numT ht
  have h4 := pars13 (ts := f.tasks) (l := f.tasks) fun t ht => List.all_eq_true.1 hF.links t ht
  have h5 : f.tasks.length * (40 + nmS f.tasks) ≤ 30 * 540 := Nat.mul_le_mul hn (by omega)
  simp only [sumW] at h0 h1 h2
  unfold printL
  simp only [List.length_append]
  omega

/-! a line more -/
theorem linesA_tail : ∀ (ws : List (List UInt8)) (x : List UInt8), (∀ w ∈ ws, ∀ b ∈ w, b ≠ 10) → (∀ b ∈ x, b ≠ 10) → x ≠ [] → linesA (catL ws ++ x) [] = ws ++ [x]
  | [], x, _, hx, hne => by
    have := Txt.linesA_run x [] [] hx
    rw [List.append_nil, List.nil_append] at this
    rw [catL, List.nil_append, this, linesA, if_neg hne]; rfl
  | w :: ws, x, h, hx, hne => by
    rw [catL, List.append_assoc, Txt.linesA_run w _ _ (h w (by simp)), List.nil_append, List.cons_append, linesA, if_pos rfl, linesA_tail ws x (fun y hy => h y (List.mem_cons_of_mem _ hy)) hx hne, List.cons_append]
/-- a text with a line behind it that is no right one there -/
theorem bad_tail {f : FlowD} (h : checkE f = 0) {x : List UInt8} {t : List (List UInt8)} (hg : ∀ w ∈ x :: t, GW w) {e : Int} (he : ∀ s : St, s.had 0 = true → namesP s.tasks = names f.tasks → addW s x t = .error e) (hl : (printL f ++ joinL (x :: t)).length ≤ 60000) :
    parseD (printL f ++ joinL (x :: t)) = (noFlow, (flowW f).length + 1, e) := by
  have hF := fine_of h
  obtain ⟨s, r, h0, hf, hn⟩ := flow_run hF
  obtain ⟨g1, g2, g3, g4, g5⟩ := line_good hg
  have hx : x ≠ [] := (hg x (by simp)).word.ne
  have hne : joinL (x :: t) ≠ [] := by
    obtain ⟨b, x', rfl⟩ := List.exists_cons_of_ne_nil hx
    cases t <;> simp [joinL]
  have hgd := hF.good
  have hfree : ∀ l ∈ (flowW f).map joinL, ∀ b ∈ l, b ≠ 10 := fun l hl => by
    obtain ⟨ws, hws, rfl⟩ := List.mem_map.1 hl
    exact (line_good (hgd ws hws).2).2.2.1
  have hlin := linesA_tail _ _ hfree g3 hne
  have hval : validD (printL f ++ joinL (x :: t)) = true := by
    rw [Txt.valid_app _ (print_lines hF).2]; exact g1
  obtain ⟨y1, y2⟩ := Txt.linesV_yes (l := printL f ++ joinL (x :: t)) (by omega) hval
  obtain ⟨b1, b2⟩ := words_back hF
  rw [print_cat] at y1 y2 ⊢
  rw [hlin] at y1
  unfold parseD
  rw [if_neg (by simp [y2]), y1]
  have hfr := feed_run ((flowW f).map joinL) St.start s 0 [joinL (x :: t)] b2 (by rw [b1]; exact r)
  rw [hfr]
  simp only [feed]
  unfold lineSt
  rw [if_neg (by simp [g4]), g5]
  simp only
  rw [he s h0 hn]
  simp only [List.length_map, Nat.zero_add]
def cnt10 (l : List UInt8) : Nat := (l.filter fun b => b == 10).length
theorem cnt10_app (a b : List UInt8) : cnt10 (a ++ b) = cnt10 a + cnt10 b := by unfold cnt10; rw [List.filter_append, List.length_append]
theorem cnt10_free {a : List UInt8} (h : ∀ b ∈ a, b ≠ 10) : cnt10 a = 0 := by
  unfold cnt10
  rw [List.length_eq_zero_iff, List.filter_eq_nil_iff]
  intro b hb
  simpa using h b hb
theorem cnt10_cat : ∀ ws : List (List UInt8), (∀ w ∈ ws, ∀ b ∈ w, b ≠ 10) → cnt10 (catL ws) = ws.length
  | [], _ => rfl
  | w :: ws, h => by
    rw [catL, cnt10_app, cnt10_free (h w (by simp)), show (10 : UInt8) :: catL ws = [10] ++ catL ws from rfl, cnt10_app, cnt10_cat ws fun y hy => h y (List.mem_cons_of_mem _ hy), List.length_cons]
    have : cnt10 [10] = 1 := rfl
    omega
theorem cnt10_print {f : FlowD} (h : checkE f = 0) : cnt10 (printL f) = (flowW f).length := by
  rw [print_cat, cnt10_cat, List.length_map]
  intro l hl
  obtain ⟨ws, hws, rfl⟩ := List.mem_map.1 hl
  exact (line_good ((fine_of h).good ws hws).2).2.2.1
def wkfB : List UInt8 := [119, 111, 114, 107, 102, 108, 111, 119]
def agnB : List UInt8 := [97, 103, 97, 105, 110]
def parB : List UInt8 := [112, 97, 114, 101, 110, 116]
def chlB : List UInt8 := [99, 104, 105, 108, 100]
def zzB : List UInt8 := [122, 122]
def jobB : List UInt8 := [106, 111, 98]
def tail1 : List UInt8 := wkfB ++ 32 :: agnB
def tail2 : List UInt8 := parB ++ 32 :: (zzB ++ 32 :: (chlB ++ 32 :: zzB))
theorem twice1 {f : FlowD} (h : checkE f = 0) (hl : longD f = false) : parseD (printL f ++ tail1) = (noFlow, cnt10 (printL f) + 1, 51) := by
  have hp := print_len2 h hl
  rw [cnt10_print h]
  refine bad_tail (x := wkfB) (t := [agnB]) h (fun w hw => ?_) (fun s h0 _ => ?_) (by rw [List.length_append]; have e : (joinL [wkfB, agnB]).length = 14 := (by decide); omega)
  · have : gwB w = true := by
      simp only [List.mem_cons, List.not_mem_nil, or_false] at hw
      rcases hw with rfl | rfl <;> decide
    exact gw_of this
  · have hc : classD wkfB [agnB] = some (0, [agnB]) := by decide +kernel
    unfold addW
    rw [hc]
    simp only
    unfold addSt
    rw [if_neg (by simp), if_neg (by decide)]
    simp only
    rw [if_pos trivial]
    unfold beginSt
    rw [if_pos h0]
theorem twice2 {f : FlowD} (h : checkE f = 0) (hl : longD f = false) (hz : zzB ∉ names f.tasks) : parseD (printL f ++ tail2) = (noFlow, cnt10 (printL f) + 1, 52) := by
  have hp := print_len2 h hl
  rw [cnt10_print h]
  refine bad_tail (x := parB) (t := [zzB, chlB, zzB]) h (fun w hw => ?_) (fun s h0 hn => ?_) (by rw [List.length_append]; have e : (joinL [parB, zzB, chlB, zzB]).length = 18 := (by decide); omega)
  · have : gwB w = true := by
      simp only [List.mem_cons, List.not_mem_nil, or_false] at hw
      rcases hw with rfl | rfl | rfl | rfl <;> decide
    exact gw_of this
  · have hc : classD parB [zzB, chlB, zzB] = some (8, [zzB, childW, zzB]) := by decide +kernel
    unfold addW
    rw [hc]
    simp only
    unfold addSt
    rw [if_neg (by simp [h0]), if_pos rfl]
    unfold parSt
    rw [hn]
    have e1 : [zzB, childW, zzB].take ([zzB, childW, zzB].idxOf childW) = [zzB] := by decide
    have e2 : idxs (names f.tasks) [zzB] = none := by
      unfold idxs
      rw [if_neg]
      simp [hz]
    rw [e1, e2]
theorem twice3 {f : FlowD} (h : checkE f = 0) (hl : longD f = false) {t : TaskD} (ht : t ∈ f.tasks) : parseD (printL f ++ (jobB ++ 32 :: t.name)) = (noFlow, cnt10 (printL f) + 1, 51) := by
  have hp := print_len2 h hl
  obtain ⟨_, htn⟩ := longD_names hl
  have htl := (htn t ht).1
  rw [cnt10_print h]
  have hF := fine_of h
  have hj : joinL [jobB, t.name] = jobB ++ 32 :: t.name := by simp [joinL]
  rw [← hj]
  refine bad_tail (x := jobB) (t := [t.name]) h (fun w hw => ?_) (fun s h0 hn => ?_) (by rw [hj]; simp only [List.length_append, List.length_cons]; have e : jobB.length = 3 := rfl; omega)
  · simp only [List.mem_cons, List.not_mem_nil, or_false] at hw
    rcases hw with rfl | rfl
    · exact gw_of (by decide)
    · exact name_gw (hF.tname ht).1
  · have hc : classD jobB [t.name] = some (3, [t.name]) := by
      unfold classD
      rw [show keyOf? jobB = some 3 from by decide +kernel]
      rfl
    unfold addW
    rw [hc]
    simp only
    unfold addSt
    rw [if_neg (by simp [h0]), if_neg (by decide)]
    simp only
    rw [if_neg (by decide), if_neg (by decide), if_pos trivial]
    unfold jobSt
    rw [if_neg (by simp [hF.names t ht]), if_pos]
    rw [hn]
    exact List.mem_map_of_mem ht
end Go.Proofs.YtdcfakbelnpljaaGreatDoor
