/- Layer Dag over, for a seat that needs several layers: what a graph tells at once: Len, has, Order, Before, Behind; a copy of a row. -/
import Derived.Test.YtkicanegjkemoaaDoorDagE
import Derived.Lib.SliceRun
namespace Go.Proofs.YtkicanegjkemoaaDoor.Dag
open Go.RowKit
set_option linter.unusedVariables false

def RetL (w : World) (xs : List Int) (e : Ending) (w' : World) : Prop := ∃ A c, e = .returned (.slice A xs.length c) ∧ Ints w' A c xs ∧ Below w.heap.size w w' ∧ ∀ a, A = some a → w.heap.size ≤ a.block
theorem retL_nil (w : World) : RetL w [] (.returned (.slice none 0 0)) w := ⟨none, 0, rfl, Ints.empty w, Below.refl _ _, fun a h => by cases h⟩

set_option maxHeartbeats 800000 in
theorem clone_any (xs : List Int) (n : Nat) (he : xs.length = n) (w : World) (A : Option Addr) (c : Nat) (h : Ints w A c xs) (hn : n ≤ 1000) :
    Calls Tryd.prog 64 #[.slice A n c] w (RetL w xs) := by
  have HE := Lib.hid he
  have q30 := fun (W : World) (a : Option Addr) (n c n' c' : Nat) => Lib.run_eql_slice_nil W 41 3 a n c n' c' Tryd.underlying41
  cases A with
  | none =>
    have hc := Sl.nil h rfl
    have hx : xs = [] := List.eq_nil_of_length_eq_zero (by have := h.len; omega)
    subst hx hc
    obtain rfl : n = 0 := by simpa using he.symm
    clear he
    go_enter Tryd.func64, Tryd.ntmps64
    go_wp2
    go_ret
    exact retL_nil w
  | some a =>
    have H := Lib.hid h; clear h he
    have own0 : Own1 (w.alloc (.cells #[] 3)) w.heap.size 3 (.slice (some ⟨w.heap.size, 0, none⟩) 0 0) [] := by
      have := Own1.lit w w.heap.size 3 (Nat.le_refl _) [] (by simp [maxLen])
      simpa using this
    have OWN := Lib.hid own0; clear own0
    go_enter Tryd.func64, Tryd.ntmps64
    go_wp2_with (at_builtin; refine wpList_appg rfl _ _ 41 3 (.int .i64 0) 8 Tryd.underlying41 info_int rfl (by decide) rfl w.heap.size (.slice (some ⟨w.heap.size, 0, none⟩) 0 0) [] rfl OWN.out (some a) c n (ints xs) (by rw [ints_len, HE.out]) rfl (Sl.below H.out ((Below.refl _ _).alloc (Nat.le_refl _) _)) (ints_one xs) (by rw [ints_len, HE.out]; simp; omega) (by simp) ?_; intro l A9 c9 w9 el ho9 hg9 hb9 hbl9; have HO9 := Lib.hid ho9; have HBL := Lib.hid hbl9; have EL := Lib.hid el; clear ho9 hg9 hb9 hbl9 el)
    go_ret
    have el : l = ints xs := by rw [EL.out, List.nil_append]
    subst el
    have h2 := (OwnI.ints' (xs := xs) HO9.out)
    rw [ints_len] at h2
    refine ⟨A9, c9, by rw [ints_len]; rfl, h2.2, ((Below.refl _ _).alloc (Nat.le_refl _) _).trans HBL.out, fun a ha => ?_⟩
    subst ha
    exact (Own1.lt HO9.out (b := a.block) rfl).1

section
variable {w : World} {E : List (List Int)} {p : Value}
theorem len_any (h : Gr w E p) : Calls Tryd.prog 42 #[p] w fun e w' => e = .returned (.int .i64 E.length) ∧ w = w' := by
  obtain ⟨g, A1, c1, A2, c2, A3, c3, rfl, hg, _⟩ := h.ex
  have h0 := blk_cell hg 0
  simp only [List.getElem?_toArray, List.getElem?_cons_zero] at h0
  clear h hg
  go_enter Tryd.func42, Tryd.ntmps42
  go_wp2
  go_ret
  exact ⟨rfl, rfl⟩
theorem len_nil (w : World) : Calls Tryd.prog 42 #[.pointer none] w fun e w' => e = .returned (.int .i64 0) ∧ w = w' := by
  go_enter Tryd.func42, Tryd.ntmps42
  go_wp2
  go_ret
  exact ⟨rfl, rfl⟩
theorem hasG_any (h : Gr w E p) (v : Int) (r : Bool) (hr : decide (0 ≤ v ∧ v < (E.length : Int)) = r) : Calls Tryd.prog 65 #[p, .int .i64 v] w fun e w' => e = .returned (.bool r) ∧ w = w' := by
  obtain ⟨g, A1, c1, A2, c2, A3, c3, ep, _⟩ := h.ex
  have H := Lib.hid h; clear h
  subst ep
  by_cases h0 : 0 ≤ v
  · by_cases h1 : v < (E.length : Int)
    · have HR : Hid (r = true) := Lib.hid (by rw [← hr]; simp [h0, h1])
      clear hr
      go_enter Tryd.func65, Tryd.ntmps65
      go_wp2_with fail
      refine (len_any H.out).mono ?_
      rintro e w' ⟨rfl, rfl⟩
      go_wp2
      go_ret
      rw [HR.out]
      exact ⟨rfl, rfl⟩
    · have HR : Hid (r = false) := Lib.hid (by rw [← hr]; simp [h0, h1])
      have hd : decide (v < (E.length : Int)) = false := decide_eq_false h1
      clear hr
      go_enter Tryd.func65, Tryd.ntmps65
      go_wp2_with fail
      refine (len_any H.out).mono ?_
      rintro e w' ⟨rfl, rfl⟩
      go_wp2
      go_ret
      rw [HR.out]
      exact ⟨rfl, rfl⟩
  · have HR : Hid (r = false) := Lib.hid (by rw [← hr]; simp [h0])
    clear hr
    go_enter Tryd.func65, Tryd.ntmps65
    go_wp2
    go_ret
    rw [HR.out]
    exact ⟨rfl, rfl⟩
end

def getL (L : List (List Int)) (v : Int) : List Int := if 0 ≤ v ∧ v < (L.length : Int) then row L v.toNat else []
theorem row_short {f : Nat → List Nat} {n : Nat} (hn : n ≤ 30) (hf : ∀ v, v < n → (f v).Nodup ∧ ∀ u ∈ f v, u < n) (v : Nat) (hv : v < n) : (num (f v)).length ≤ 1000 := by
  rw [num_len]
  have := nodup_len (hf v hv).1 (hf v hv).2
  omega

theorem order_any (w : World) (E : List (List Int)) (p : Value) (h : Gr w E p) (hn : E.length ≤ 30) : Calls Tryd.prog 43 #[p] w (RetL w (num (order E))) := by
  obtain ⟨g, A1, c1, A2, c2, A3, c3, rfl, hg, h1, h2, h3⟩ := h.ex
  have e2 := blk_cell hg 2
  simp only [show (#[Value.slice A1 E.length c1, Value.slice A2 E.length c2, Value.slice A3 E.length c3] : Array Value)[2]? = some (.slice A3 E.length c3) from rfl] at e2
  have H3 := Lib.hid h3
  have HF := Lib.hid h.full
  clear h hg h1 h2 h3
  go_enter Tryd.func43, Tryd.ntmps43
  go_wp2_with fail
  refine (clone_any _ _ (by rw [num_len, HF.out]) _ _ _ H3.out (by omega)).mono ?_
  rintro e w1 ⟨A, c, rfl, hi, hb, hfr⟩
  have HI := Lib.hid hi
  have HB := Lib.hid hb
  have HFR := Lib.hid hfr
  clear hi hb hfr
  go_wp2
  go_ret
  exact ⟨A, c, rfl, HI.out, HB.out, HFR.out⟩

theorem before_any (w : World) (E : List (List Int)) (p : Value) (h : Gr w E p) (hn : E.length ≤ 30) (v : Int) : Calls Tryd.prog 44 #[p, .int .i64 v] w (RetL w (getL (fro E) v)) := by
  have H := Lib.hid h
  obtain ⟨g, A1, c1, A2, c2, A3, c3, ep, hg, h1, h2, h3⟩ := h.ex
  subst ep
  by_cases hv : 0 ≤ v ∧ v < (E.length : Int)
  · obtain ⟨n, rfl⟩ : ∃ n : Nat, v = (n : Int) := ⟨v.toNat, by omega⟩
    have hnl : n < E.length := by omega
    have e0 := blk_cell hg 0
    simp only [show (#[Value.slice A1 E.length c1, Value.slice A2 E.length c2, Value.slice A3 E.length c3] : Array Value)[0]? = some (.slice A1 E.length c1) from rfl] at e0
    obtain ⟨b, off, A', c', rfl, hc, hi⟩ := h1.cells n _ (fro_get hnl)
    have HI := Lib.hid hi
    have HG : Hid (getL (fro E) (n : Int) = num (befL E n)) := Lib.hid (by unfold getL; rw [fro_len, if_pos (by omega), Int.toNat_natCast]; exact fro_row n hnl)
    have hle : (num (befL E n)).length ≤ 1000 := row_short hn (f := befL E) (fun v _ => ⟨bef_nodup E v, fun u hu => (bef_mem.1 hu).1⟩) n hnl
    have HV : Hid (decide (0 ≤ (n : Int) ∧ (n : Int) < (E.length : Int)) = true) := Lib.hid (decide_eq_true hv)
    clear h hg h1 h2 h3 hi hv
    rw [HG.out]
    go_enter Tryd.func44, Tryd.ntmps44
    go_wp2_with fail
    refine (hasG_any H.out _ true HV.out).mono ?_
    rintro e w1 ⟨rfl, rfl⟩
    go_wp2_with fail
    refine (clone_any _ _ rfl _ _ _ HI.out hle).mono ?_
    rintro e w1 ⟨A, c, rfl, hi, hb, hfr⟩
    have HI2 := Lib.hid hi
    have HB := Lib.hid hb
    have HFR := Lib.hid hfr
    clear hi hb hfr
    go_wp2
    go_ret
    exact ⟨A, c, rfl, HI2.out, HB.out, HFR.out⟩
  · have HV : Hid (decide (0 ≤ v ∧ v < (E.length : Int)) = false) := Lib.hid (decide_eq_false hv)
    have HG : Hid (getL (fro E) v = []) := Lib.hid (by unfold getL; rw [fro_len, if_neg hv])
    clear h hg h1 h2 h3 hv
    rw [HG.out]
    go_enter Tryd.func44, Tryd.ntmps44
    go_wp2_with fail
    refine (hasG_any H.out _ false HV.out).mono ?_
    rintro e w1 ⟨rfl, rfl⟩
    go_wp2
    go_ret
    exact retL_nil _

theorem behind_any (w : World) (E : List (List Int)) (p : Value) (h : Gr w E p) (hn : E.length ≤ 30) (v : Int) : Calls Tryd.prog 78 #[p, .int .i64 v] w (RetL w (getL (rev E) v)) := by
  have H := Lib.hid h
  obtain ⟨g, A1, c1, A2, c2, A3, c3, ep, hg, h1, h2, h3⟩ := h.ex
  subst ep
  by_cases hv : 0 ≤ v ∧ v < (E.length : Int)
  · obtain ⟨n, rfl⟩ : ∃ n : Nat, v = (n : Int) := ⟨v.toNat, by omega⟩
    have hnl : n < E.length := by omega
    have e0 := blk_cell hg 1
    simp only [show (#[Value.slice A1 E.length c1, Value.slice A2 E.length c2, Value.slice A3 E.length c3] : Array Value)[1]? = some (.slice A2 E.length c2) from rfl] at e0
    obtain ⟨b, off, A', c', rfl, hc, hi⟩ := h2.cells n _ (rev_get hnl)
    have HI := Lib.hid hi
    have HG : Hid (getL (rev E) (n : Int) = num (behL E n)) := Lib.hid (by unfold getL; rw [rev_len, if_pos (by omega), Int.toNat_natCast]; exact rev_row n hnl)
    have hle : (num (behL E n)).length ≤ 1000 := row_short hn (f := behL E) (fun v _ => ⟨beh_nodup E v, fun u hu => (beh_mem.1 hu).1⟩) n hnl
    have HV : Hid (decide (0 ≤ (n : Int) ∧ (n : Int) < (E.length : Int)) = true) := Lib.hid (decide_eq_true hv)
    clear h hg h1 h2 h3 hi hv
    rw [HG.out]
    go_enter Tryd.func78, Tryd.ntmps78
    go_wp2_with fail
    refine (hasG_any H.out _ true HV.out).mono ?_
    rintro e w1 ⟨rfl, rfl⟩
    go_wp2_with fail
    refine (clone_any _ _ rfl _ _ _ HI.out hle).mono ?_
    rintro e w1 ⟨A, c, rfl, hi, hb, hfr⟩
    have HI2 := Lib.hid hi
    have HB := Lib.hid hb
    have HFR := Lib.hid hfr
    clear hi hb hfr
    go_wp2
    go_ret
    exact ⟨A, c, rfl, HI2.out, HB.out, HFR.out⟩
  · have HV : Hid (decide (0 ≤ v ∧ v < (E.length : Int)) = false) := Lib.hid (decide_eq_false hv)
    have HG : Hid (getL (rev E) v = []) := Lib.hid (by unfold getL; rw [rev_len, if_neg hv])
    clear h hg h1 h2 h3 hv
    rw [HG.out]
    go_enter Tryd.func78, Tryd.ntmps78
    go_wp2_with fail
    refine (hasG_any H.out _ false HV.out).mono ?_
    rintro e w1 ⟨rfl, rfl⟩
    go_wp2
    go_ret
    exact retL_nil _

end Go.Proofs.YtkicanegjkemoaaDoor.Dag

