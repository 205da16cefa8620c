/- Of the document's: Check. -/
import Derived.Test.YtkicanegjkemoaaDoorFlwRNum
import Derived.StillTailTactics
namespace Go.Proofs.YtkicanegjkemoaaDoor
open Go.RowKit
open Dag (Ints IRows Own1 Sl newE)
open Txt (nameD sameS)
open Clk (isT)
set_option linter.unusedVariables false
set_option maxRecDepth 100000

theorem fcells {W w1 : World} {b : Nat} {f : FlowD} {A : Option Addr} {c : Nat} (hb : Below W.heap.size W w1) (h : W.heap[b]? = some (flowO f A c)) :
    w1.cell? ⟨b, 0, none⟩ = some (.string (sb f.name)) ∧ w1.cell? ⟨b, 1, none⟩ = some (.int .i64 f.deadline) ∧ w1.cell? ⟨b, 2, none⟩ = some (.int .i64 f.priority) ∧ w1.cell? ⟨b, 3, none⟩ = some (.slice A f.tasks.length c) ∧ b < w1.heap.size := flowO_cells (keep_obj hb h)
/-- the one ahead of place k -/
def lastI (l : List Int) : Nat → Int
  | 0 => -1
  | k + 1 => l.getD k 0
theorem lastI_succ {l : List Int} {k : Nat} {x : Int} (h : l[k]? = some x) : lastI l (k + 1) = x := by
  show l.getD k 0 = x
  rw [List.getD_eq_getElem?_getD, h]; rfl
theorem rise_bad {n : Nat} {l : List Int} {j : Nat} {x : Int} (h : l[j]? = some x) (hi : linkOK n l = riseL n (lastI l j) (l.drop j)) (hbad : x ≤ lastI l j ∨ (n : Int) ≤ x) : linkOK n l = false := by
  rw [hi, rise_at h]
  rcases hbad with hb | hb
  · rw [decide_eq_false (by omega)]; rfl
  · rw [decide_eq_false (show ¬ x < (n : Int) by omega)]; simp
theorem rise_good {n : Nat} {l : List Int} {j : Nat} {x : Int} (h : l[j]? = some x) (hi : linkOK n l = riseL n (lastI l j) (l.drop j)) (h1 : lastI l j < x) (h2 : x < (n : Int)) : linkOK n l = riseL n (lastI l (j + 1)) (l.drop (j + 1)) := by
  rw [hi, rise_at h, lastI_succ h, decide_eq_true h1, decide_eq_true h2]; rfl
theorem find_dup {ts : List TaskD} {k : Nat} {t : TaskD} (h : ts[k]? = some t) (hm : t.name ∈ names (ts.take k)) : findI ts t.name ≠ (k : Int) ∧ twins ts = true := by
  obtain ⟨hk, he⟩ := List.getElem?_eq_some_iff.1 h
  have hs : ts = ts.take k ++ t :: ts.drop (k + 1) := by rw [← he, ← List.drop_eq_getElem_cons hk, List.take_append_drop]
  have hn : names ts = names (ts.take k) ++ t.name :: names (ts.drop (k + 1)) := by
    conv => lhs; rw [hs]
    simp [names]
  constructor
  · unfold findI
    rw [if_pos (by rw [hn]; simp), hn, List.idxOf_append, if_pos hm]
    have := List.idxOf_lt_length_of_mem hm
    simp only [names, List.length_map, List.length_take] at this
    simp only [names] at this ⊢
    omega
  · unfold twins
    simp only [Bool.not_eq_true', decide_eq_false_iff_not]
    rw [hn]
    intro hd
    exact (List.nodup_append.1 hd).2.2 _ hm _ (List.mem_cons_self) rfl
theorem nodup_names {ts : List TaskD} {k : Nat} {t : TaskD} (h : ts[k]? = some t) (hm : t.name ∉ names (ts.take k)) (hd : (names (ts.take k)).Nodup) : (names (ts.take (k + 1))).Nodup := by
  rw [names_take h, List.nodup_append]
  exact ⟨hd, by simp, fun a ha b hb e => by simp at hb; subst hb; subst e; exact hm ha⟩

set_option maxHeartbeats 6400000 in
theorem rcheckN_any (f : FlowD) (A : Option Addr) (c : Nat) (w : World) (h : Tasks w A c f.tasks) (hT : Txt.Tabs w) (hl : f.name.length ≤ 1100000) (hn : ∀ t ∈ f.tasks, t.name.length ≤ 1100000) (hlen : f.tasks.length ≤ 300) :
    Calls Tryd.prog 15 #[.agg #[.string (sb f.name), .int .i64 f.deadline, .int .i64 f.priority, .slice A f.tasks.length c]] w fun e w' => e = .returned (.int .i64 (checkE f)) ∧ Below w.heap.size w w' := by
  have H := Lib.hid h; have HT := Lib.hid hT; have HN := Lib.hid hn
  clear h hT hn
  go_enter Tryd.func15, Tryd.ntmps15
  go_wp2_with fail
  refine (rnm_any f.name _ hl (HT.out.below (al _ _))).mono ?_
  rintro e w1 ⟨rfl, hb1⟩
  have HB1 := Lib.hid (blw (al w (flowO f A c)) hb1)
  have HO1 : Hid (w1.heap[w.heap.size]? = some (flowO f A c)) := Lib.hid ((hb1.block _ (by simp)).trans (heap_alloc_new w _))
  have H1 := Lib.hid (H.out.below HB1.out); have HT1 := Lib.hid (HT.out.below HB1.out)
  clear hb1
  cases hnm : nameD f.name
  · have HE := Lib.hid (show checkE f = 5 from by unfold checkE namesOK; simp [hnm])
    go_wp2
    go_ret
    exact ⟨by rw [HE.out]; rfl, HB1.out⟩
  have HNM := Lib.hid hnm
  clear hnm
  obtain ⟨p0, p1, p2, p3, hp⟩ := flowO_cells HO1.out
  go_wp2_with fail
  go_loopw [3] (fun i wr => ∃ k : Nat, k ≤ f.tasks.length ∧ i = .int .i64 k ∧ Hid (Below w1.heap.size w1 wr) ∧ Hid ((f.tasks.take k).all (fun t => taskName t.name) = true)) (fun i _ => f.tasks.length - (intOf i).toNat)
  case atStart => exact ⟨0, Nat.zero_le _, rfl, Lib.hid (Below.refl _ _), Lib.hid rfl⟩
  case round =>
    obtain ⟨k, hk, rfl, HB, HI⟩ := hrel
    clear p0 p1 p2 p3 hp
    obtain ⟨p0, p1, p2, p3, hp⟩ := fcells HB.out HO1.out
    by_cases hlt : k < f.tasks.length
    · obtain ⟨t, ht⟩ : ∃ t, f.tasks[k]? = some t := ⟨_, List.getElem?_eq_getElem hlt⟩
      obtain ⟨b, off, A', c', rfl, h0, _⟩ := (H1.out.below HB.out).cells k _ ht
      have htl := HN.out t (List.mem_of_getElem? ht)
      have HTK := Lib.hid ht
      clear ht
      go_wp2_with fail
      refine (rnm_any t.name _ htl (HT1.out.below HB.out)).mono ?_
      rintro e w2 ⟨rfl, hb2⟩
      have HB2 := Lib.hid (blw HB.out hb2)
      have g0 := keep_cell hb2 h0
      clear hb2 h0 p0 p1 p2 p3
      obtain ⟨p0, p1, p2, p3, hp⟩ := fcells HB2.out HO1.out
      cases hx : nameD t.name
      · have HE := Lib.hid (show checkE f = 5 from by
          unfold checkE namesOK
          rw [all_no (p := fun (t : TaskD) => taskName t.name) HTK.out (by unfold taskName; rw [hx]; rfl)]; simp)
        go_wp2
        go_ret
        exact ⟨by rw [HE.out]; rfl, blw HB1.out HB2.out⟩
      · have HX := Lib.hid hx
        clear hx
        go_wp2_with fail
        refine (ris6_any t.name childW _ (Nat.le_trans htl (by decide)) (by decide)).mono ?_
        rintro e w3 ⟨rfl, hb3⟩
        have HB3 := Lib.hid (blw HB2.out hb3)
        clear hb3 g0 p0 p1 p2 p3
        obtain ⟨p0, p1, p2, p3, hp⟩ := fcells HB3.out HO1.out
        cases hy : sameS t.name childW
        · have HN2 := Lib.hid (all_snoc (p := fun (t : TaskD) => taskName t.name) HTK.out (by unfold taskName; rw [HX.out, hy]; rfl) HI.out)
          clear hy
          go_wp2
          go_roundw
          case rel => exact ⟨k + 1, by omega, by go_num, HB3, HN2⟩
          case measure => simp [intOf]; omega
        · have HE := Lib.hid (show checkE f = 5 from by
            unfold checkE namesOK
            rw [all_no (p := fun (t : TaskD) => taskName t.name) HTK.out (by unfold taskName; rw [HX.out, hy]; rfl)]; simp)
          clear hy
          go_wp2
          go_ret
          exact ⟨by rw [HE.out]; rfl, blw HB1.out HB3.out⟩
    have hnames : namesOK f = true := by unfold namesOK; rw [all_done (p := fun (t : TaskD) => taskName t.name) hlt HI.out, HNM.out]; rfl
    obtain rfl : k = f.tasks.length := by omega
    have HC2 : Hid (numbersOK f = false → checkE f = 2) := Lib.hid fun e => by unfold checkE; simp [hnames, e]
    have HC3 : Hid (numbersOK f = true → twins f.tasks = true → checkE f = 51) := Lib.hid fun e e2 => by unfold checkE; simp [hnames, e, e2]
    have HC4 : Hid (numbersOK f = true → twins f.tasks = false → linksOK f.tasks = false → checkE f = 2) := Lib.hid fun e e2 e3 => by unfold checkE; simp [hnames, e, e2, e3, show ¬ 4096 < f.tasks.length by omega]
    have HC5 : Hid (numbersOK f = true → twins f.tasks = false → linksOK f.tasks = true → checkE f = newE (afterL f.tasks)) := Lib.hid fun e e2 e3 => by unfold checkE; simp [hnames, e, e2, e3, show ¬ 4096 < f.tasks.length by omega]
    have HBN := Lib.hid (blw HB1.out HB.out)
    have H2 := Lib.hid (H1.out.below HB.out)
    have HO2 := Lib.hid (keep_obj HB.out HO1.out)
    clear hnames HI HNM H1 HT1 HB1 HO1 HB H HT
    go_wp2_with fail
    refine (Clk.ris_any _ _).mono ?_
    rintro e w3 ⟨rfl, rfl⟩
    by_cases hnum : isT f.deadline = true ∧ 0 ≤ f.priority ∧ f.priority ≤ 1000
    case neg =>
      have HE := Lib.hid (HC2.out (by
        unfold numbersOK
        have : (inR 0 maxT f.deadline && inR 0 1000 f.priority) = false := by
          rw [Bool.eq_false_iff]
          intro e
          simp only [inR, Bool.and_eq_true, decide_eq_true_eq] at e
          exact hnum ⟨by unfold isT; simp [e.1.1]; exact e.1.2, e.2⟩
        rw [this]; simp))
      cases hd : isT f.deadline
      · go_wp2
        go_ret
        exact ⟨by rw [HE.out]; rfl, HBN.out⟩
      · by_cases hq1 : 0 ≤ f.priority
        · have hq2 : 1000 < f.priority := by
            by_cases hh : f.priority ≤ 1000
            · exact absurd ⟨hd, hq1, hh⟩ hnum
            · omega
          clear hnum
          go_wp2
          go_ret
          exact ⟨by rw [HE.out]; rfl, HBN.out⟩
        · clear hnum
          go_wp2
          go_ret
          exact ⟨by rw [HE.out]; rfl, HBN.out⟩
    obtain ⟨hd, hq1, hq2⟩ := hnum
    have HNUM : Hid ((inR 0 maxT f.deadline && inR 0 1000 f.priority) = true) := Lib.hid (by
      unfold isT at hd
      simp only [Bool.and_eq_true, decide_eq_true_eq] at hd
      simp [inR, maxT, hd, hq1, hq2])
    rw [hd]
    clear hd
    generalize wr = w4 at *
    go_wp2_with fail
    go_loopw [4] (fun i wr => ∃ k : Nat, k ≤ f.tasks.length ∧ i = .int .i64 k ∧ Hid (Below w4.heap.size w4 wr) ∧ Hid ((f.tasks.take k).all numsOK = true)) (fun i _ => f.tasks.length - (intOf i).toNat)
    case atStart => exact ⟨0, Nat.zero_le _, rfl, Lib.hid (Below.refl _ _), Lib.hid rfl⟩
    case round =>
      obtain ⟨k, hk, rfl, HB, HI⟩ := hrel
      clear p0 p1 p2 p3 hp
      obtain ⟨p0, p1, p2, p3, hp⟩ := fcells HB.out HO2.out
      by_cases hlt : k < f.tasks.length
      · obtain ⟨t, ht⟩ : ∃ t, f.tasks[k]? = some t := ⟨_, List.getElem?_eq_getElem hlt⟩
        obtain ⟨b, off, A', c', rfl, h0, h1, h2, h3, h4, h5, _⟩ := (H2.out.below HB.out).cells k _ ht
        have HTK := Lib.hid ht
        clear ht
        go_wp2_with fail
        refine (rnums_any t A' c' _).mono ?_
        rintro e w2 ⟨rfl, hb2⟩
        have HB2 := Lib.hid (blw HB.out hb2)
        clear hb2
        cases hx : numsOK t
        · have HE := Lib.hid (HC2.out (by unfold numbersOK; rw [all_no HTK.out hx]; rfl))
          go_wp2
          go_ret
          exact ⟨by rw [HE.out]; rfl, blw HBN.out HB2.out⟩
        · have HN2 := Lib.hid (all_snoc HTK.out hx HI.out)
          go_wp2
          go_roundw
          case rel => exact ⟨k + 1, by omega, by go_num, HB2, HN2⟩
          case measure => simp [intOf]; omega
      have HNO : Hid (numbersOK f = true) := Lib.hid (by unfold numbersOK; rw [all_done hlt HI.out, HNUM.out]; rfl)
      obtain rfl : k = f.tasks.length := by omega
      have HB5 := Lib.hid (blw HBN.out HB.out)
      have H5 := Lib.hid (H2.out.below HB.out)
      have HO5 := Lib.hid (keep_obj HB.out HO2.out)
      clear HI HNUM HBN H2 HO2 HB
      generalize wr = w5 at *
      go_wp2_with fail
      go_loopw [5] (fun i wr => ∃ k : Nat, k ≤ f.tasks.length ∧ i = .int .i64 k ∧ Hid (Below w5.heap.size w5 wr) ∧ Hid ((names (f.tasks.take k)).Nodup)) (fun i _ => f.tasks.length - (intOf i).toNat)
      case atStart => exact ⟨0, Nat.zero_le _, rfl, Lib.hid (Below.refl _ _), Lib.hid (by simp [names])⟩
      case round =>
        obtain ⟨k, hk, rfl, HB, HI⟩ := hrel
        clear p0 p1 p2 p3 hp
        obtain ⟨p0, p1, p2, p3, hp⟩ := fcells HB.out HO5.out
        by_cases hlt : k < f.tasks.length
        · obtain ⟨t, ht⟩ : ∃ t, f.tasks[k]? = some t := ⟨_, List.getElem?_eq_getElem hlt⟩
          obtain ⟨b, off, A', c', rfl, h0, _⟩ := (H5.out.below HB.out).cells k _ ht
          have HTK := Lib.hid ht
          clear ht
          have H5d := Lib.hid ((H5.out.below HB.out).below (bdrew wr 1))
          have HBD := Lib.hid (blw HB.out (bdrew wr 1))
          change Hid (Tasks wr.drew _ c f.tasks) at H5d
          change Hid (Below w5.heap.size w5 wr.drew) at HBD
          go_wp2_with fail
          go_region_held3 (fun (W : World) => W.cell? ⟨w.heap.size, 0, none⟩ = some (.string (sb f.name)) ∧ W.cell? ⟨w.heap.size, 1, none⟩ = some (.int .i64 f.deadline) ∧ W.cell? ⟨w.heap.size, 2, none⟩ = some (.int .i64 f.priority) ∧ W.cell? ⟨w.heap.size, 3, none⟩ = some (.slice (some ⟨b, off, none⟩) f.tasks.length c) ∧ W.cell? ⟨b, off + k * 6, none⟩ = some (.string (sb t.name))) (first | exact ⟨p0, p1, p2, p3, h0⟩ | exact ⟨d0, d1, d2, d3, dn⟩) (first | (go_at_call 35; refine (rfind_any f _ c _ H5d.out t.name).mono ?_; rintro e w2 ⟨rfl, hb2⟩; have d0 := keep_cell hb2 p0; have d1 := keep_cell hb2 p1; have d2 := keep_cell hb2 p2; have d3 := keep_cell hb2 p3; have dn := keep_cell hb2 h0; have HB2 := Lib.hid (blw HBD.out hb2)))
          clear d0 d1 d2 d3 dn
          by_cases hm : t.name ∈ names (f.tasks.take k)
          · obtain ⟨hx, hy⟩ := find_dup HTK.out hm
            have hne : (findI f.tasks t.name != (k : Int)) = true := by simpa using hx
            have HE := Lib.hid (HC3.out HNO.out hy)
            clear hx hy hm
            go_wp2
            go_ret
            exact ⟨by rw [HE.out]; rfl, blw HB5.out HB2.out⟩
          · have hne : (findI f.tasks t.name != (k : Int)) = false := by rw [findI_at HTK.out rfl hm]; simp
            have HN2 := Lib.hid (nodup_names HTK.out hm HI.out)
            clear hm
            go_wp2
            go_roundw
            case rel => exact ⟨k + 1, by omega, by go_num, HB2, HN2⟩
            case measure => simp [intOf]; omega
        obtain rfl : k = f.tasks.length := by omega
        have HTW : Hid (twins f.tasks = false) := Lib.hid (by have := HI.out; rw [List.take_length] at this; unfold twins; rw [decide_eq_true this]; rfl)
        have HB6 := Lib.hid (blw HB5.out HB.out)
        have H6 := Lib.hid (H5.out.below HB.out)
        have HO6 := Lib.hid (keep_obj HB.out HO5.out)
        clear HI HB5 H5 HO5 HB
        generalize wr = w6 at *
        go_wp2_with fail
        go_loopw [6] (fun i wr => ∃ k : Nat, k ≤ f.tasks.length ∧ i = .int .i64 k ∧ Hid (Below w6.heap.size w6 wr) ∧ Hid ((f.tasks.take k).all (fun t => linkOK f.tasks.length t.after) = true)) (fun i _ => f.tasks.length - (intOf i).toNat)
        case atStart => exact ⟨0, Nat.zero_le _, rfl, Lib.hid (Below.refl _ _), Lib.hid rfl⟩
        case round =>
          obtain ⟨k, hk, rfl, HB, HI⟩ := hrel
          clear p0 p1 p2 p3 hp
          obtain ⟨p0, p1, p2, p3, hp⟩ := fcells HB.out HO6.out
          by_cases hlt : k < f.tasks.length
          · obtain ⟨t, ht⟩ : ∃ t, f.tasks[k]? = some t := ⟨_, List.getElem?_eq_getElem hlt⟩
            obtain ⟨b, off, A', c', rfl, h0, h1, h2, h3, h4, h5, hI5⟩ := (H6.out.below HB.out).cells k _ ht
            have HTK := Lib.hid ht
            have HI5 := Lib.hid hI5
            have hal : t.after.length ≤ 9223372036854775807 := Nat.le_trans hI5.len (by have := Sl.top hI5; simpa [maxLen] using this)
            clear ht hI5
            obtain ⟨W7, hW7⟩ : ∃ W7, W7 = wr := ⟨_, rfl⟩
            have HW7 := Lib.hid hW7
            rw [← hW7] at HB HI5
            clear hW7
            go_wp2_with fail
            go_loopw [8] (fun i wr => ∃ j : Nat, j ≤ t.after.length ∧ i = .int .i64 j ∧ Hid (Below W7.heap.size W7 wr) ∧ Hid (linkOK f.tasks.length t.after = riseL f.tasks.length (lastI t.after j) (t.after.drop j)) ∧ Hid (-1 ≤ lastI t.after j)) (fun i _ => t.after.length - (intOf i).toNat)
            case atStart => exact ⟨0, Nat.zero_le _, rfl, Lib.hid (by rw [HW7.out]; exact Below.refl _ _), Lib.hid rfl, Lib.hid (Int.le_refl _)⟩
            case round =>
              obtain ⟨j, hj, rfl, HBJ, HR, HL⟩ := hrel
              clear p0 p1 p2 p3 hp
              obtain ⟨p0, p1, p2, p3, hp⟩ := fcells (blw HB.out HBJ.out) HO6.out
              by_cases hjl : j < t.after.length
              · obtain ⟨b2, off2, x, rfl, hx, hcx⟩ := (HI5.out.below HBJ.out).at_ hjl
                have HX := Lib.hid hx
                clear hx
                by_cases hx0 : x < 0
                · have HE := Lib.hid (HC4.out HNO.out HTW.out (all_no (p := fun (t : TaskD) => linkOK f.tasks.length t.after) HTK.out (rise_bad HX.out HR.out (Or.inl (by have := HL.out; omega)))))
                  go_wp2
                  go_quiet (fail)
                  go_wp2
                  go_ret
                  exact ⟨by rw [HE.out]; rfl, blw (blw HB6.out (blw HB.out HBJ.out)) (bdrew _ _)⟩
                have dx0 : decide (x < 0) = false := decide_eq_false hx0
                by_cases hxn : (f.tasks.length : Int) ≤ x
                · have HE := Lib.hid (HC4.out HNO.out HTW.out (all_no (p := fun (t : TaskD) => linkOK f.tasks.length t.after) HTK.out (rise_bad HX.out HR.out (Or.inr hxn))))
                  go_wp2
                  go_quiet (fail)
                  go_wp2
                  go_ret
                  exact ⟨by rw [HE.out]; rfl, blw (blw HB6.out (blw HB.out HBJ.out)) (bdrew _ _)⟩
                have dxn : decide ((f.tasks.length : Int) ≤ x) = false := decide_eq_false hxn
                by_cases hj0 : j = 0
                · have dj0 : decide ((0 : Int) < (j : Int)) = false := decide_eq_false (by omega)
                  have dj1 : decide (0 < j) = false := decide_eq_false (by omega)
                  have HRN := Lib.hid (rise_good HX.out HR.out (by rw [hj0]; show (-1 : Int) < x; omega) (by omega))
                  have HLN : Hid (-1 ≤ lastI t.after (j + 1)) := Lib.hid (by rw [lastI_succ HX.out]; omega)
                  clear hj0
                  go_wp2
                  go_quiet (fail)
                  go_wp2
                  go_roundw
                  case rel => exact ⟨j + 1, by omega, by go_num, Lib.hid (blw HBJ.out (bdrew _ _)), HRN, HLN⟩
                  case measure => simp [intOf]; omega
                · have hjp : (0 : Int) < (j : Int) := by omega
                  have djp : decide ((0 : Int) < (j : Int)) = true := decide_eq_true hjp
                  have djq : decide (0 < j) = true := decide_eq_true (by omega)
                  obtain ⟨m, hm⟩ : ∃ m, j = m + 1 := ⟨j - 1, by omega⟩
                  obtain ⟨b3, off3, y, e3, hy, hcy⟩ := (HI5.out.below HBJ.out).at_ (k := m) (by omega)
                  injection e3 with e3; injection e3 with e31 e32
                  subst e31 e32
                  have HY := Lib.hid hy
                  have hlast : lastI t.after j = y := by rw [hm, lastI_succ hy]
                  have hwm : IntKind.i64.wrap ((j : Int) - 1) = (m : Int) := by rw [IntKind.wrap_i64]; omega
                  have hmn : (m : Int) < (t.after.length : Int) := by omega
                  have HLS := Lib.hid hlast
                  have HM := Lib.hid hm
                  clear hy hlast hm
                  by_cases hxy : x ≤ y
                  · have dxy : decide (x ≤ y) = true := decide_eq_true hxy
                    have HE := Lib.hid (HC4.out HNO.out HTW.out (all_no (p := fun (t : TaskD) => linkOK f.tasks.length t.after) HTK.out (rise_bad HX.out HR.out (Or.inl (by rw [HLS.out]; exact hxy)))))
                    go_wp2
                    go_quiet (fail)
                    go_wp2
                    go_ret
                    exact ⟨by rw [HE.out]; rfl, blw (blw HB6.out (blw HB.out HBJ.out)) (bdrew _ _)⟩
                  · have dxy : decide (x ≤ y) = false := decide_eq_false hxy
                    have HRN := Lib.hid (rise_good HX.out HR.out (by rw [HLS.out]; omega) (by omega))
                    have HLN : Hid (-1 ≤ lastI t.after (j + 1)) := Lib.hid (by rw [lastI_succ HX.out]; omega)
                    go_wp2
                    go_quiet (fail)
                    go_wp2
                    go_roundw
                    case rel => exact ⟨j + 1, by omega, by go_num, Lib.hid (blw HBJ.out (bdrew _ _)), HRN, HLN⟩
                    case measure => simp [intOf]; omega
              · obtain rfl : j = t.after.length := by omega
                have HN2 := Lib.hid (all_snoc (p := fun (t : TaskD) => linkOK f.tasks.length t.after) HTK.out (by have := HR.out; rw [List.drop_length] at this; simpa [riseL] using this) HI.out)
                go_wp2
                go_roundw
                case rel => exact ⟨k + 1, by omega, by go_num, Lib.hid (blw HB.out HBJ.out), HN2⟩
                case measure => simp [intOf]; omega
          have HE := Lib.hid (HC5.out HNO.out HTW.out (by unfold linksOK; exact all_done (p := fun (t : TaskD) => linkOK f.tasks.length t.after) hlt HI.out))
          obtain rfl : k = f.tasks.length := by omega
          have HB8 := Lib.hid (blw HB6.out HB.out)
          have H8 := Lib.hid (H6.out.below HB.out)
          clear HI HB6 H6 HB HC2 HC3 HC4 HC5
          go_wp2_with fail
          refine (rafter_any f _ c _ H8.out (by omega)).mono ?_
          rintro e w9 ⟨A9, c9, rfl, hr9, hb9⟩
          have HR9 := Lib.hid hr9; have HB9 := Lib.hid (blw HB8.out hb9)
          clear hr9 hb9
          go_wp2_with fail
          refine (Dag.rcheck5_any (afterL f.tasks) _ (after_len _) _ A9 c9 HR9.out hlen).mono ?_
          rintro e w10 ⟨rfl, hb10⟩
          go_wp2
          go_ret
          exact ⟨by rw [HE.out]; rfl, blw HB9.out hb10⟩

theorem rcheck_any (f : FlowD) (A : Option Addr) (c : Nat) (w : World) (h : Tasks w A c f.tasks) (hT : Txt.Tabs w) (hl : f.name.length ≤ 1100000) (hn : ∀ t ∈ f.tasks, t.name.length ≤ 1100000) (hlen : f.tasks.length ≤ 30) :
    Calls Tryd.prog 15 #[.agg #[.string (sb f.name), .int .i64 f.deadline, .int .i64 f.priority, .slice A f.tasks.length c]] w fun e w' => e = .returned (.int .i64 (checkE f)) ∧ Below w.heap.size w w' :=
  rcheckN_any f A c w h hT hl hn (by omega)
end Go.Proofs.YtkicanegjkemoaaDoor

