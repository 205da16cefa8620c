/- Layer Dag over, for a seat that needs several layers: what a graph tells at once: Len, has, Order, Before, Behind; a copy of a row.
   Layer 7: a task's weight, the greatest of some numbers, by the program and by the document.
   Layer Clk over, for a seat that needs several layers: lists of times, Add, Mul.
   Layer 7: Widest, and sums of weights, by the program and by the document.
   Layer 7: Total, Area; the document's sums. -/
import Derived.Test.YtaiolhanbjndcaaDoorMTab
import Derived.Lib.SliceRun
import Derived.Test.YtaiolhanbjndcaaDoorMFlw
import Derived.Test.YtaiolhanbjndcaaDoorMChk
import Derived.Test.YtaiolhanbjndcaaDoorMDag
import Derived.WalkKit
import Derived.ProofKit
import Derived.Lib.Hide
namespace Go.Proofs.YtaiolhanbjndcaaDoor.Dag
open Go.RowKit
set_option linter.unusedVariables false

def RetL (w : World) (xs : List Int) (e : Ending) (w' : World) : Prop := ∃ A c, e = .returned (.slice A xs.length c) ∧ Ints w' A c xs ∧ Below w.heap.size w w' ∧ ∀ a, A = some a → w.heap.size ≤ a.block
theorem retL_nil (w : World) : RetL w [] (.returned (.slice none 0 0)) w := ⟨none, 0, rfl, Ints.empty w, Below.refl _ _, fun a h => by cases h⟩

set_option maxHeartbeats 800000 in
theorem clone_any (xs : List Int) (n : Nat) (he : xs.length = n) (w : World) (A : Option Addr) (c : Nat) (h : Ints w A c xs) (hn : n ≤ 1000) :
    Calls Tryd.prog 38 #[.slice A n c] w (RetL w xs) := by
  have HE := Lib.hid he
  have q30 := fun (W : World) (a : Option Addr) (n c n' c' : Nat) => Lib.run_eql_slice_nil W 27 3 a n c n' c' Tryd.underlying27
  cases A with
  | none =>
    have hc := Sl.nil h rfl
    have hx : xs = [] := List.eq_nil_of_length_eq_zero (by have := h.len; omega)
    subst hx hc
    obtain rfl : n = 0 := by simpa using he.symm
    clear he
    go_enter Tryd.func38, Tryd.ntmps38
    go_wp2
    go_ret
    exact retL_nil w
  | some a =>
    have H := Lib.hid h; clear h he
    have own0 : Own1 (w.alloc (.cells #[] 3)) w.heap.size 3 (.slice (some ⟨w.heap.size, 0, none⟩) 0 0) [] := by
      have := Own1.lit w w.heap.size 3 (Nat.le_refl _) [] (by simp [maxLen])
      simpa using this
    have OWN := Lib.hid own0; clear own0
    go_enter Tryd.func38, Tryd.ntmps38
    go_wp2_with (at_builtin; refine wpList_appg rfl _ _ 27 3 (.int .i64 0) 8 Tryd.underlying27 info_int rfl (by decide) rfl w.heap.size (.slice (some ⟨w.heap.size, 0, none⟩) 0 0) [] rfl OWN.out (some a) c n (ints xs) (by rw [ints_len, HE.out]) rfl (Sl.below H.out ((Below.refl _ _).alloc (Nat.le_refl _) _)) (ints_one xs) (by rw [ints_len, HE.out]; simp; omega) (by simp) ?_; intro l A9 c9 w9 el ho9 hg9 hb9 hbl9; have HO9 := Lib.hid ho9; have HBL := Lib.hid hbl9; have EL := Lib.hid el; clear ho9 hg9 hb9 hbl9 el)
    go_ret
    have el : l = ints xs := by rw [EL.out, List.nil_append]
    subst el
    have h2 := (OwnI.ints' (xs := xs) HO9.out)
    rw [ints_len] at h2
    refine ⟨A9, c9, by rw [ints_len]; rfl, h2.2, ((Below.refl _ _).alloc (Nat.le_refl _) _).trans HBL.out, fun a ha => ?_⟩
    subst ha
    exact (Own1.lt HO9.out (b := a.block) rfl).1

section
variable {w : World} {E : List (List Int)} {p : Value}
theorem len_any (h : Gr w E p) : Calls Tryd.prog 32 #[p] w fun e w' => e = .returned (.int .i64 E.length) ∧ w = w' := by
  obtain ⟨g, A1, c1, A2, c2, A3, c3, rfl, hg, _⟩ := h.ex
  have h0 := blk_cell hg 0
  simp only [List.getElem?_toArray, List.getElem?_cons_zero] at h0
  clear h hg
  go_enter Tryd.func32, Tryd.ntmps32
  go_wp2
  go_ret
  exact ⟨rfl, rfl⟩
theorem len_nil (w : World) : Calls Tryd.prog 32 #[.pointer none] w fun e w' => e = .returned (.int .i64 0) ∧ w = w' := by
  go_enter Tryd.func32, Tryd.ntmps32
  go_wp2
  go_ret
  exact ⟨rfl, rfl⟩
theorem hasG_any (h : Gr w E p) (v : Int) (r : Bool) (hr : decide (0 ≤ v ∧ v < (E.length : Int)) = r) : Calls Tryd.prog 44 #[p, .int .i64 v] w fun e w' => e = .returned (.bool r) ∧ w = w' := by
  obtain ⟨g, A1, c1, A2, c2, A3, c3, ep, _⟩ := h.ex
  have H := Lib.hid h; clear h
  subst ep
  by_cases h0 : 0 ≤ v
  · by_cases h1 : v < (E.length : Int)
    · have HR : Hid (r = true) := Lib.hid (by rw [← hr]; simp [h0, h1])
      clear hr
      go_enter Tryd.func44, Tryd.ntmps44
      go_wp2_with fail
      refine (len_any H.out).mono ?_
      rintro e w' ⟨rfl, rfl⟩
      go_wp2
      go_ret
      rw [HR.out]
      exact ⟨rfl, rfl⟩
    · have HR : Hid (r = false) := Lib.hid (by rw [← hr]; simp [h0, h1])
      have hd : decide (v < (E.length : Int)) = false := decide_eq_false h1
      clear hr
      go_enter Tryd.func44, Tryd.ntmps44
      go_wp2_with fail
      refine (len_any H.out).mono ?_
      rintro e w' ⟨rfl, rfl⟩
      go_wp2
      go_ret
      rw [HR.out]
      exact ⟨rfl, rfl⟩
  · have HR : Hid (r = false) := Lib.hid (by rw [← hr]; simp [h0])
    clear hr
    go_enter Tryd.func44, Tryd.ntmps44
    go_wp2
    go_ret
    rw [HR.out]
    exact ⟨rfl, rfl⟩
end

def getL (L : List (List Int)) (v : Int) : List Int := if 0 ≤ v ∧ v < (L.length : Int) then row L v.toNat else []
theorem row_short {f : Nat → List Nat} {n : Nat} (hn : n ≤ 30) (hf : ∀ v, v < n → (f v).Nodup ∧ ∀ u ∈ f v, u < n) (v : Nat) (hv : v < n) : (num (f v)).length ≤ 1000 := by
  rw [num_len]
  have := nodup_len (hf v hv).1 (hf v hv).2
  omega

theorem order_any (w : World) (E : List (List Int)) (p : Value) (h : Gr w E p) (hn : E.length ≤ 30) : Calls Tryd.prog 21 #[p] w (RetL w (num (order E))) := by
  obtain ⟨g, A1, c1, A2, c2, A3, c3, rfl, hg, h1, h2, h3⟩ := h.ex
  have e2 := blk_cell hg 2
  simp only [show (#[Value.slice A1 E.length c1, Value.slice A2 E.length c2, Value.slice A3 E.length c3] : Array Value)[2]? = some (.slice A3 E.length c3) from rfl] at e2
  have H3 := Lib.hid h3
  have HF := Lib.hid h.full
  clear h hg h1 h2 h3
  go_enter Tryd.func21, Tryd.ntmps21
  go_wp2_with fail
  refine (clone_any _ _ (by rw [num_len, HF.out]) _ _ _ H3.out (by omega)).mono ?_
  rintro e w1 ⟨A, c, rfl, hi, hb, hfr⟩
  have HI := Lib.hid hi
  have HB := Lib.hid hb
  have HFR := Lib.hid hfr
  clear hi hb hfr
  go_wp2
  go_ret
  exact ⟨A, c, rfl, HI.out, HB.out, HFR.out⟩

theorem before_any (w : World) (E : List (List Int)) (p : Value) (h : Gr w E p) (hn : E.length ≤ 30) (v : Int) : Calls Tryd.prog 33 #[p, .int .i64 v] w (RetL w (getL (fro E) v)) := by
  have H := Lib.hid h
  obtain ⟨g, A1, c1, A2, c2, A3, c3, ep, hg, h1, h2, h3⟩ := h.ex
  subst ep
  by_cases hv : 0 ≤ v ∧ v < (E.length : Int)
  · obtain ⟨n, rfl⟩ : ∃ n : Nat, v = (n : Int) := ⟨v.toNat, by omega⟩
    have hnl : n < E.length := by omega
    have e0 := blk_cell hg 0
    simp only [show (#[Value.slice A1 E.length c1, Value.slice A2 E.length c2, Value.slice A3 E.length c3] : Array Value)[0]? = some (.slice A1 E.length c1) from rfl] at e0
    obtain ⟨b, off, A', c', rfl, hc, hi⟩ := h1.cells n _ (fro_get hnl)
    have HI := Lib.hid hi
    have HG : Hid (getL (fro E) (n : Int) = num (befL E n)) := Lib.hid (by unfold getL; rw [fro_len, if_pos (by omega), Int.toNat_natCast]; exact fro_row n hnl)
    have hle : (num (befL E n)).length ≤ 1000 := row_short hn (f := befL E) (fun v _ => ⟨bef_nodup E v, fun u hu => (bef_mem.1 hu).1⟩) n hnl
    have HV : Hid (decide (0 ≤ (n : Int) ∧ (n : Int) < (E.length : Int)) = true) := Lib.hid (decide_eq_true hv)
    clear h hg h1 h2 h3 hi hv
    rw [HG.out]
    go_enter Tryd.func33, Tryd.ntmps33
    go_wp2_with fail
    refine (hasG_any H.out _ true HV.out).mono ?_
    rintro e w1 ⟨rfl, rfl⟩
    go_wp2_with fail
    refine (clone_any _ _ rfl _ _ _ HI.out hle).mono ?_
    rintro e w1 ⟨A, c, rfl, hi, hb, hfr⟩
    have HI2 := Lib.hid hi
    have HB := Lib.hid hb
    have HFR := Lib.hid hfr
    clear hi hb hfr
    go_wp2
    go_ret
    exact ⟨A, c, rfl, HI2.out, HB.out, HFR.out⟩
  · have HV : Hid (decide (0 ≤ v ∧ v < (E.length : Int)) = false) := Lib.hid (decide_eq_false hv)
    have HG : Hid (getL (fro E) v = []) := Lib.hid (by unfold getL; rw [fro_len, if_neg hv])
    clear h hg h1 h2 h3 hv
    rw [HG.out]
    go_enter Tryd.func33, Tryd.ntmps33
    go_wp2_with fail
    refine (hasG_any H.out _ false HV.out).mono ?_
    rintro e w1 ⟨rfl, rfl⟩
    go_wp2
    go_ret
    exact retL_nil _

theorem behind_any (w : World) (E : List (List Int)) (p : Value) (h : Gr w E p) (hn : E.length ≤ 30) (v : Int) : Calls Tryd.prog 29 #[p, .int .i64 v] w (RetL w (getL (rev E) v)) := by
  have H := Lib.hid h
  obtain ⟨g, A1, c1, A2, c2, A3, c3, ep, hg, h1, h2, h3⟩ := h.ex
  subst ep
  by_cases hv : 0 ≤ v ∧ v < (E.length : Int)
  · obtain ⟨n, rfl⟩ : ∃ n : Nat, v = (n : Int) := ⟨v.toNat, by omega⟩
    have hnl : n < E.length := by omega
    have e0 := blk_cell hg 1
    simp only [show (#[Value.slice A1 E.length c1, Value.slice A2 E.length c2, Value.slice A3 E.length c3] : Array Value)[1]? = some (.slice A2 E.length c2) from rfl] at e0
    obtain ⟨b, off, A', c', rfl, hc, hi⟩ := h2.cells n _ (rev_get hnl)
    have HI := Lib.hid hi
    have HG : Hid (getL (rev E) (n : Int) = num (behL E n)) := Lib.hid (by unfold getL; rw [rev_len, if_pos (by omega), Int.toNat_natCast]; exact rev_row n hnl)
    have hle : (num (behL E n)).length ≤ 1000 := row_short hn (f := behL E) (fun v _ => ⟨beh_nodup E v, fun u hu => (beh_mem.1 hu).1⟩) n hnl
    have HV : Hid (decide (0 ≤ (n : Int) ∧ (n : Int) < (E.length : Int)) = true) := Lib.hid (decide_eq_true hv)
    clear h hg h1 h2 h3 hi hv
    rw [HG.out]
    go_enter Tryd.func29, Tryd.ntmps29
    go_wp2_with fail
    refine (hasG_any H.out _ true HV.out).mono ?_
    rintro e w1 ⟨rfl, rfl⟩
    go_wp2_with fail
    refine (clone_any _ _ rfl _ _ _ HI.out hle).mono ?_
    rintro e w1 ⟨A, c, rfl, hi, hb, hfr⟩
    have HI2 := Lib.hid hi
    have HB := Lib.hid hb
    have HFR := Lib.hid hfr
    clear hi hb hfr
    go_wp2
    go_ret
    exact ⟨A, c, rfl, HI2.out, HB.out, HFR.out⟩
  · have HV : Hid (decide (0 ≤ v ∧ v < (E.length : Int)) = false) := Lib.hid (decide_eq_false hv)
    have HG : Hid (getL (rev E) v = []) := Lib.hid (by unfold getL; rw [rev_len, if_neg hv])
    clear h hg h1 h2 h3 hv
    rw [HG.out]
    go_enter Tryd.func29, Tryd.ntmps29
    go_wp2_with fail
    refine (hasG_any H.out _ false HV.out).mono ?_
    rintro e w1 ⟨rfl, rfl⟩
    go_wp2
    go_ret
    exact retL_nil _

end Go.Proofs.YtaiolhanbjndcaaDoor.Dag
namespace Go.Proofs.YtaiolhanbjndcaaDoor
open Go.RowKit
open Dag (Ints Own1 Sl num num_len)
set_option linter.unusedVariables false
set_option maxRecDepth 100000

theorem weight_any (t : TaskD) (A : Option Addr) (c : Nat) (w : World) :
    Calls Tryd.prog 15 #[.agg #[.string (sb t.name), .int .i64 t.nodes, .int .i64 t.wall, .int .i64 t.retry, .bool t.done, .slice A t.after.length c]] w fun e w' => e = .returned (.int .i64 (wgt t)) ∧ Below w.heap.size w w' := by
  cases hd : t.done
  · have HW := Lib.hid (show wgt t = t.wall from by unfold wgt; rw [if_neg (by rw [hd]; decide)])
    clear hd
    go_enter Tryd.func15, Tryd.ntmps15
    go_wp2
    go_ret
    exact ⟨by rw [HW.out]; rfl, al _ _⟩
  · have HW := Lib.hid (show wgt t = 0 from by unfold wgt; rw [if_pos hd])
    clear hd
    go_enter Tryd.func15, Tryd.ntmps15
    go_wp2
    go_ret
    exact ⟨by rw [HW.out]; rfl, al _ _⟩
set_option maxHeartbeats 1600000 in
theorem greatest_any (xs : List Int) (n : Nat) (hn : xs.length = n) (ts : List Nat) (m : Nat) (hm : ts.length = m) (hlt : ∀ v ∈ ts, v < n) (w : World) (A B : Option Addr) (c d : Nat) (h1 : Ints w A c xs) (h2 : Ints w B d (num ts)) :
    Calls Tryd.prog 30 #[.slice A n c, .slice B m d] w fun e w' => e = .returned (.int .i64 (maxL (ts.map (atL xs)))) ∧ w = w' := by
  have hnl : n ≤ 9223372036854775807 := by rw [← hn]; exact Nat.le_trans h1.len (by have := Sl.top h1; simpa [maxLen] using this)
  have hml : m ≤ 9223372036854775807 := by have h := h2.len; rw [num_len, hm] at h; exact Nat.le_trans h (by have := Sl.top h2; simpa [maxLen] using this)
  have H1 := Lib.hid h1; have H2 := Lib.hid h2; have HN := Lib.hid hn; have HM := Lib.hid hm; have HL := Lib.hid hlt
  clear h1 h2 hn hm hlt
  go_enter Tryd.func30, Tryd.ntmps30
  go_wp2
  go_loop [5, 10] (fun nn i => ∃ (k : Nat) (y : Int), k ≤ m ∧ i = .int .i64 k ∧ nn = .int .i64 y ∧ Hid (y = maxL ((ts.take k).map (atL xs)))) (fun _ i => m - (intOf i).toNat)
  case atStart => exact ⟨0, 0, Nat.zero_le _, rfl, rfl, Lib.hid rfl⟩
  case round =>
    obtain ⟨k, y, hk, rfl, rfl, HY⟩ := hrel
    by_cases hlt : k < m
    · obtain ⟨v, hv⟩ : ∃ v, ts[k]? = some v := ⟨_, List.getElem?_eq_getElem (by rw [HM.out]; exact hlt)⟩
      have hvn := HL.out v (List.mem_of_getElem? hv)
      obtain ⟨x, hx⟩ : ∃ x, xs[v]? = some x := ⟨_, List.getElem?_eq_getElem (by rw [HN.out]; exact hvn)⟩
      obtain ⟨b1, o1, e1, c1⟩ := H2.out.cells k (.int .i64 (v : Int)) (by unfold Dag.ints; rw [List.getElem?_map, Dag.num_get, hv]; rfl)
      obtain ⟨b2, o2, e2, c2⟩ := H1.out.cells v (.int .i64 x) (by unfold Dag.ints; rw [List.getElem?_map, hx]; rfl)
      subst e1 e2
      have HS := Lib.hid (show max y x = maxL ((ts.take (k + 1)).map (atL xs)) from by
        rw [List.take_add_one, hv, Option.toList_some, List.map_append, List.map_cons, List.map_nil, maxL_snoc, ← HY.out, atL_some hx])
      clear hv hx
      go_wp2
      go_round
      case rel => exact ⟨k + 1, max y x, by omega, by go_num, rfl, HS⟩
      case measure => simp [intOf]; omega
    · obtain rfl : k = m := by omega
      have HF := Lib.hid (show maxL (ts.map (atL xs)) = y from by rw [HY.out, List.take_of_length_le (by rw [HM.out]; exact Nat.le_refl _)])
      go_wp2
      go_ret
      exact ⟨by rw [HF.out]; rfl, rfl⟩
end Go.Proofs.YtaiolhanbjndcaaDoor
namespace Go.Proofs.YtaiolhanbjndcaaDoor.Clk
open Go.RowKit
set_option linter.unusedVariables false

theorem allT_snoc (l : List Int) (x : Int) : allT (l ++ [x]) = (allT l && isT x) := by simp [allT]
theorem allT_no {l : List Int} {k : Nat} {x : Int} (h : l[k]? = some x) (hx : isT x = false) : allT l = false := by
  cases e : allT l
  · rfl
  · simp only [allT, List.all_eq_true] at e
    have := e x (List.mem_of_getElem? h)
    rw [this] at hx; cases hx

set_option maxHeartbeats 400000 in
theorem areTimes_any (A : Option Addr) (c : Nat) (zs : List Int) (w : World) (h : Ints w A zs) (hl : zs.length ≤ maxLen) :
    Calls Tryd.prog 49 #[.slice A zs.length c] w fun e w' => e = .returned (.bool (allT zs)) ∧ w = w' := by
  unfold maxLen at hl
  have H := Lib.hid h; clear h
  go_enter Tryd.func49, Tryd.ntmps49
  go_wp2
  go_loop [7] (fun i => ∃ k : Nat, k ≤ zs.length ∧ i = .int .i64 k ∧ Hid (allT (zs.take k) = true)) (fun i => zs.length - (intOf i).toNat)
  case atStart => exact ⟨0, Nat.zero_le _, rfl, Lib.hid rfl⟩
  case round =>
    obtain ⟨k, hk, rfl, ha⟩ := hrel
    by_cases hlt : k < zs.length
    · obtain ⟨b, off, x, rfl, hx, hc⟩ := H.out.at_ hlt
      have HX := Lib.hid hx; clear hx
      cases hT : isT x
      · go_wp2_with (go_at_call 48; refine (is_any _ _).mono ?_; rintro e w' ⟨rfl, rfl⟩)
        go_ret
        exact ⟨by rw [allT_no HX.out hT]; rfl, rfl⟩
      · go_wp2_with (go_at_call 48; refine (is_any _ _).mono ?_; rintro e w' ⟨rfl, rfl⟩)
        go_round
        case rel => exact ⟨k + 1, by omega, by go_num, Lib.hid (by rw [take_snoc_some HX.out, allT_snoc, ha.out, hT]; rfl)⟩
        case measure => simp [intOf]; omega
    · go_wp2
      go_ret
      have hz : allT zs = true := by rw [← ha.out, List.take_of_length_le (by omega)]
      exact ⟨by rw [hz]; rfl, rfl⟩

theorem add_arg {l : List Int} (h : allT l = false) : addV l = 0 ∧ addE l = 2 := by simp [addV, addE, h]
theorem add_over {l : List Int} (h : allT l = true) (ho : 1099511627775 < sumL l) : addV l = 0 ∧ addE l = 6 := by
  have : ¬ sumL l ≤ 1099511627775 := by omega
  simp [addV, addE, h, this]
theorem add_yes {l : List Int} (h : allT l = true) (ho : sumL l ≤ 1099511627775) : addV l = sumL l ∧ addE l = 0 := by simp [addV, addE, h, ho]
theorem allT_at {l : List Int} {k : Nat} {x : Int} (h : allT l = true) (hx : l[k]? = some x) : isT x = true := by
  simp only [allT, List.all_eq_true] at h
  exact h x (List.mem_of_getElem? hx)

set_option maxHeartbeats 800000 in
theorem add_any (t : Int) (A : Option Addr) (c : Nat) (zs : List Int) (w : World) (h : Ints w A zs) (hl : zs.length ≤ maxLen) :
    Calls Tryd.prog 34 #[.int .i64 t, .slice A zs.length c] w fun e w' => e = .returned (.tuple #[.int .i64 (addV (t :: zs)), .int .i64 (addE (t :: zs))]) ∧ w = w' := by
  have H := Lib.hid h; clear h
  have HL := Lib.hid hl
  unfold maxLen at hl
  cases h1 : isT t
  · have hz : allT (t :: zs) = false := by simp [allT, h1]
    rw [(add_arg hz).1, (add_arg hz).2]; clear hz
    go_enter Tryd.func34, Tryd.ntmps34
    go_wp2_with (go_at_call 48; refine (is_any _ _).mono ?_; rintro e w' ⟨rfl, rfl⟩)
    go_ret2
    exact ⟨rfl, rfl⟩
  · cases h2 : allT zs
    · have hz : allT (t :: zs) = false := by simp only [allT, List.all_cons] at h2 ⊢; rw [h2]; simp
      rw [(add_arg hz).1, (add_arg hz).2]; clear hz
      go_enter Tryd.func34, Tryd.ntmps34
      go_wp2_with (first | (go_at_call 48; refine (is_any _ _).mono ?_; rintro e w' ⟨rfl, rfl⟩) | (go_at_call 49; refine (areTimes_any _ _ _ _ H.out HL.out).mono ?_; rintro e w' ⟨rfl, rfl⟩))
      go_ret2
      exact ⟨rfl, rfl⟩
    · have hz : allT (t :: zs) = true := by simp only [allT, List.all_cons] at h2 ⊢; rw [h2, h1]; rfl
      have HZ := Lib.hid hz; clear hz
      have bt := isT_bd h1
      go_enter Tryd.func34, Tryd.ntmps34
      go_wp2_with (first | (go_at_call 48; refine (is_any _ _).mono ?_; rintro e w' ⟨rfl, rfl⟩) | (go_at_call 49; refine (areTimes_any _ _ _ _ H.out HL.out).mono ?_; rintro e w' ⟨rfl, rfl⟩))
      have H2 := Lib.hid h2; clear h2
      go_loop [6, 20] (fun s i => ∃ (k : Nat) (x : Int), k ≤ zs.length ∧ i = .int .i64 k ∧ s = .int .i64 x ∧ 0 ≤ x ∧ x ≤ 1099511627775 ∧ Hid (x = t + sumL (zs.take k))) (fun _ i => zs.length - (intOf i).toNat)
      case atStart => exact ⟨0, t, Nat.zero_le _, rfl, rfl, bt.1, bt.2, Lib.hid (by simp [sumL])⟩
      case round =>
        obtain ⟨k, s, hk, rfl, rfl, hs0, hs1, hs⟩ := hrel
        by_cases hlt : k < zs.length
        · obtain ⟨b, off, x, rfl, hx, hc⟩ := H.out.at_ hlt
          have hT := isT_bd (allT_at H2.out hx)
          have HX := Lib.hid hx; clear hx
          have hsum : Hid (t + sumL (zs.take (k + 1)) = s + x) := Lib.hid (by rw [take_snoc_some HX.out, sumL_snoc, hs.out]; omega)
          by_cases ho : 1099511627775 - s < x
          · go_wp2
            go_ret2
            have hov : 1099511627775 < sumL (t :: zs) := by
              have := sumL_take_le zs (k + 1) H2.out
              have e := hsum.out
              simp only [sumL]; omega
            exact ⟨by rw [(add_over HZ.out hov).1, (add_over HZ.out hov).2]; rfl, rfl⟩
          · go_wp2
            go_round
            case rel => exact ⟨k + 1, s + x, by omega, by go_num, rfl, by omega, by omega, Lib.hid hsum.out.symm⟩
            case measure => simp [intOf]; omega
        · have hfin : sumL (t :: zs) = s := by
            have e := hs.out
            rw [List.take_of_length_le (by omega)] at e
            simp only [sumL]; omega
          have HF := Lib.hid hfin; clear hfin
          go_wp2
          go_ret2
          have hov : sumL (t :: zs) ≤ 1099511627775 := by rw [HF.out]; omega
          exact ⟨by rw [(add_yes HZ.out hov).1, (add_yes HZ.out hov).2, HF.out]; rfl, rfl⟩


theorem mul_any (t n : Int) (w : World) (hn : n ≤ 9223372036854775807) : Calls Tryd.prog 50 #[.int .i64 t, .int .i64 n] w fun e w' => e = .returned (.tuple #[.int .i64 (mulV t n), .int .i64 (mulE t n)]) ∧ w = w' := by
  cases h1 : isT t
  · rw [(mul_arg1 (n := n) h1).1, (mul_arg1 (n := n) h1).2]
    go_enter Tryd.func50, Tryd.ntmps50
    go_wp2_with (go_at_call 48; refine (is_any _ _).mono ?_; rintro e w' ⟨rfl, rfl⟩)
    go_ret2
    exact ⟨rfl, rfl⟩
  · have b1 := isT_bd h1
    by_cases h2 : n < 0
    · rw [(mul_arg2 (t := t) h2).1, (mul_arg2 (t := t) h2).2]
      go_enter Tryd.func50, Tryd.ntmps50
      go_wp2_with (go_at_call 48; refine (is_any _ _).mono ?_; rintro e w' ⟨rfl, rfl⟩)
      go_ret2
      exact ⟨rfl, rfl⟩
    · by_cases h3 : t = 0
      · subst h3
        rw [(mul_yes (n := n) h1 (by omega) (by simp)).1, (mul_yes (n := n) h1 (by omega) (by simp)).2, Int.zero_mul]
        go_enter Tryd.func50, Tryd.ntmps50
        go_wp2_with (go_at_call 48; refine (is_any _ _).mono ?_; rintro e w' ⟨rfl, rfl⟩)
        go_ret2
        exact ⟨rfl, rfl⟩
      · by_cases h4 : 1099511627775 / t < n
        · have h5 := (quo_over (t := t) (n := n) (by omega)).1 h4
          rw [(mul_over h1 (by omega) h5).1, (mul_over h1 (by omega) h5).2]
          clear h5
          go_enter Tryd.func50, Tryd.ntmps50
          go_wp2_with (go_at_call 48; refine (is_any _ _).mono ?_; rintro e w' ⟨rfl, rfl⟩)
          go_ret2
          exact ⟨rfl, rfl⟩
        · have h5 : t * n ≤ 1099511627775 := Int.not_lt.1 fun h => h4 ((quo_over (t := t) (n := n) (by omega)).2 h)
          rw [(mul_yes h1 (by omega) h5).1, (mul_yes h1 (by omega) h5).2]
          have h6 : 0 ≤ n * t := Int.mul_nonneg (by omega) (by omega)
          rw [Int.mul_comm t n] at h5 ⊢
          go_enter Tryd.func50, Tryd.ntmps50
          go_wp2_with (go_at_call 48; refine (is_any _ _).mono ?_; rintro e w' ⟨rfl, rfl⟩)
          go_ret2
          exact ⟨rfl, rfl⟩

end Go.Proofs.YtaiolhanbjndcaaDoor.Clk
namespace Go.Proofs.YtaiolhanbjndcaaDoor
open Go.RowKit
open Dag (Ints Own1 Sl num num_len)
set_option linter.unusedVariables false
set_option maxRecDepth 100000

/-- the most nodes of what is not done -/
def nodesW (t : TaskD) : Int := if t.done = true then 0 else t.nodes
def widestD (ts : List TaskD) : Int := maxL (ts.map nodesW)
def widV (f : FlowD) : Int := if checkE f = 0 then widestD f.tasks else 0
theorem wid_snoc {ts : List TaskD} {k : Nat} {t : TaskD} (h : ts[k]? = some t) : widestD (ts.take (k + 1)) = max (widestD (ts.take k)) (nodesW t) := by
  unfold widestD
  rw [List.take_add_one, h, Option.toList_some, List.map_append, List.map_cons, List.map_nil, maxL_snoc]

/-! the sums -/
def timesW (area : Bool) (t : TaskD) : Int := if area = true then t.nodes else 1
def sumD (area : Bool) (ts : List TaskD) : Int := Clk.sumL (ts.map fun t => wgt t * timesW area t)
def sumE (area : Bool) (f : FlowD) : Int := if checkE f ≠ 0 then checkE f else if sumD area f.tasks ≤ maxT then 0 else 6
def sumV (area : Bool) (f : FlowD) : Int := if sumE area f = 0 then sumD area f.tasks else 0
theorem sum_snoc {area : Bool} {ts : List TaskD} {k : Nat} {t : TaskD} (h : ts[k]? = some t) : sumD area (ts.take (k + 1)) = sumD area (ts.take k) + wgt t * timesW area t := by
  unfold sumD
  rw [List.take_add_one, h, Option.toList_some, List.map_append, List.map_cons, List.map_nil, Clk.sumL_snoc]
theorem one_any (t : TaskD) (A : Option Addr) (c : Nat) (w : World) :
    Calls Tryd.prog 36 #[.agg #[.string (sb t.name), .int .i64 t.nodes, .int .i64 t.wall, .int .i64 t.retry, .bool t.done, .slice A t.after.length c]] w fun e w' => e = .returned (.int .i64 (timesW false t)) ∧ Below w.heap.size w w' := by
  go_enter Tryd.func36, Tryd.ntmps36
  go_wp2
  go_ret
  exact ⟨rfl, by first | exact al _ _ | exact Below.refl _ _⟩
theorem nums_wgt {f : FlowD} (hc : checkE f = 0) {t : TaskD} (ht : t ∈ f.tasks) (area : Bool) : 0 ≤ wgt t ∧ wgt t ≤ maxT ∧ 0 ≤ timesW area t ∧ timesW area t ≤ 10000 := by
  have hn : numbersOK f = true := by
    cases e : numbersOK f with
    | true => rfl
    | false =>
      unfold checkE at hc
      simp only [e, if_true] at hc
      split at hc <;> cases hc
  unfold numbersOK at hn
  simp only [Bool.and_eq_true, List.all_eq_true] at hn
  have h1 := hn.1 t ht
  unfold numsOK inR at h1
  simp only [Bool.and_eq_true, decide_eq_true_eq] at h1
  have hw : wgt t = 0 ∨ wgt t = t.wall := by unfold wgt; split; exact Or.inl rfl; exact Or.inr rfl
  refine ⟨by rcases hw with e | e <;> rw [e] <;> omega, by rcases hw with e | e <;> rw [e] <;> unfold maxT at * <;> omega, ?_, ?_⟩
  · unfold timesW; split <;> omega
  · unfold timesW; split <;> omega

theorem add1_any (t p : Int) (g : Nat) (w : World) (h : w.cell? ⟨g, 0, none⟩ = some (.int .i64 p)) (v e0 : Int) (hv : Clk.addV [t, p] = v) (he : Clk.addE [t, p] = e0) :
    Calls Tryd.prog 34 #[.int .i64 t, .slice (some ⟨g, 0, none⟩) 1 1] w fun e w' => e = .returned (.tuple #[.int .i64 v, .int .i64 e0]) ∧ w = w' := by
  subst hv he
  refine Clk.add_any t (some ⟨g, 0, none⟩) 1 [p] w (fun k x hx => ?_) (by simp [maxLen])
  match k, hx with
  | 0, hx =>
    simp at hx; subst hx
    exact ⟨g, 0, rfl, World.block_lt_of_cell? w _ h, h⟩
  | k + 1, hx => simp at hx
theorem add_two {t p : Int} (h0 : 0 ≤ t) (h1 : t ≤ 1099511627775) (h2 : 0 ≤ p) (h3 : p ≤ 1099511627775) : (t + p ≤ 1099511627775 → Clk.addV [t, p] = t + p ∧ Clk.addE [t, p] = 0) ∧ (1099511627775 < t + p → Clk.addV [t, p] = 0 ∧ Clk.addE [t, p] = 6) := by
  have ha : Clk.allT [t, p] = true := by simp [Clk.allT, Clk.isT_yes h0 h1, Clk.isT_yes h2 h3]
  have hs : Clk.sumL [t, p] = t + p := by simp [Clk.sumL]
  exact ⟨fun h => by have := Clk.add_yes ha (by rw [hs]; exact h); rwa [hs] at this, fun h => Clk.add_over ha (by rw [hs]; exact h)⟩
theorem sum_take_le {area : Bool} {ts : List TaskD} (h : ∀ t ∈ ts, 0 ≤ wgt t * timesW area t) (k : Nat) : sumD area (ts.take k) ≤ sumD area ts := by
  unfold sumD
  induction ts generalizing k with
  | nil => simp
  | cons t ts ih =>
    cases k with
    | zero =>
      have h1 := ih (fun u hu => h u (by simp [hu])) 0
      have h2 := h t (by simp)
      simp only [List.take_zero, List.map_nil, Clk.sumL, List.map_cons] at h1 ⊢
      omega
    | succ k =>
      have h1 := ih (fun u hu => h u (by simp [hu])) k
      simp only [List.take_succ_cons, List.map_cons, Clk.sumL]
      omega

set_option maxHeartbeats 3200000 in
theorem sum_any (area : Bool) (g : Nat) (hg : g = g) (f : FlowD) (A : Option Addr) (c : Nat) (w : World) (h : Tasks w A c f.tasks) (hT : Tb3 w) (hl : f.name.length ≤ 9000000000000000000) (hn : ∀ t ∈ f.tasks, t.name.length ≤ 9000000000000000000)
    (ht : ∀ (t : TaskD) (A : Option Addr) (c : Nat) (w : World), Calls Tryd.prog g #[.agg #[.string (sb t.name), .int .i64 t.nodes, .int .i64 t.wall, .int .i64 t.retry, .bool t.done, .slice A t.after.length c]] w fun e w' => e = .returned (.int .i64 (timesW area t)) ∧ Below w.heap.size w w') (eg : ∀ args w, (callFunc g args).run Tryd.prog w = .ok (.enter g args) w) :
    Calls Tryd.prog 35 #[.agg #[.string (sb f.name), .int .i64 f.deadline, .int .i64 f.priority, .slice A f.tasks.length c], .func (.func g) #[] #[]] w fun e w' => e = .returned (.tuple #[.int .i64 (sumV area f), .int .i64 (sumE area f)]) ∧ Below w.heap.size w w' := by
  have hlm := h.lenI
  have HC := Lib.hid fun W (hW : Below w.heap.size w W) => check_all f A c W (h.below hW) (hT.below hW) hl hn
  have H := Lib.hid h; have HTM := Lib.hid ht
  clear h hT hl hn hg ht
  obtain ⟨x, hx⟩ : ∃ x, checkE f = x := ⟨_, rfl⟩
  have HX := Lib.hid hx
  rw [hx] at HC
  clear hx
  by_cases h0 : x = 0
  case neg =>
    have hxn : (x != 0) = true := by simp [h0]
    have HE : Hid (sumE area f = x) := Lib.hid (by unfold sumE; rw [HX.out, if_pos h0])
    have HV : Hid (sumV area f = 0) := Lib.hid (by unfold sumV; rw [HE.out, if_neg h0])
    clear h0
    go_enter Tryd.func35, Tryd.ntmps35
    go_wp2_with fail
    refine wp_scope_straight ?_
    go_wp2_with fail
    refine (HC.out _ (al _ _)).mono ?_
    rintro e w1 ⟨rfl, hb1⟩
    have HB1 := Lib.hid (blw (al w (flowO f A c)) hb1)
    clear hb1
    go_wp2
    simp only [Exit.noGoto]
    go_ret2
    exact ⟨by rw [HV.out, HE.out]; rfl, HB1.out⟩
  subst h0
  have HPO := Lib.hid fun (t : TaskD) (hm : t ∈ f.tasks) => nums_wgt HX.out hm area
  go_enter Tryd.func35, Tryd.ntmps35
  go_wp2_with fail
  refine wp_scope_straight ?_
  go_wp2_with fail
  refine (HC.out _ (al _ _)).mono ?_
  rintro e w1 ⟨rfl, hb1⟩
  have HB1 := Lib.hid (blw (al w (flowO f A c)) hb1)
  have HO1 : Hid (w1.heap[w.heap.size]? = some (flowO f A c)) := Lib.hid ((hb1.block _ (by simp)).trans (heap_alloc_new w _))
  clear hb1
  obtain ⟨p0, p1, p2, p3, hp⟩ := flowO_cells HO1.out
  go_wp2
  refine wp_label ?_
  go_wp2
  go_loopw [6, 7, 19] (fun ee nn i wr => ∃ (k : Nat) (y : Int), k ≤ f.tasks.length ∧ i = .int .i64 k ∧ ee = .int .i64 0 ∧ nn = .int .i64 y ∧ 0 ≤ y ∧ y ≤ 1099511627775 ∧ Hid (y = sumD area (f.tasks.take k)) ∧ Hid (Below w.heap.size w wr)) (fun _ _ i _ => f.tasks.length - (intOf i).toNat)
  case atStart => exact ⟨0, 0, Nat.zero_le _, rfl, rfl, rfl, by decide, by decide, Lib.hid rfl, HB1⟩
  case round =>
    obtain ⟨k, y, hk, rfl, rfl, rfl, hy0, hy1, HY, HB⟩ := hrel
    by_cases hlt : k < f.tasks.length
    · obtain ⟨t, ht⟩ : ∃ t, f.tasks[k]? = some t := ⟨_, List.getElem?_eq_getElem hlt⟩
      obtain ⟨b, off, A2, c2, rfl, h0, h1, h2, h3, h4, h5, hI⟩ := (H.out.below HB.out).cells k _ ht
      have hS := sum_snoc (area := area) ht
      rw [← HY.out] at hS
      obtain ⟨hw0, hw1, ht0, ht1⟩ := HPO.out t (List.mem_of_getElem? ht)
      have HS := Lib.hid hS
      clear hS hI
      have hin := Lib.hid (List.mem_of_getElem? ht)
      have hw2 := heap_alloc_new wr (.cells #[.string (sb t.name), .int .i64 t.nodes, .int .i64 t.wall, .int .i64 t.retry, .bool t.done, .slice A2 t.after.length c2] 32)
      have hB2 := blw HB.out (al wr (.cells #[.string (sb t.name), .int .i64 t.nodes, .int .i64 t.wall, .int .i64 t.retry, .bool t.done, .slice A2 t.after.length c2] 32))
      go_wp2_with fail
      generalize wr.alloc (.cells #[.string (sb t.name), .int .i64 t.nodes, .int .i64 t.wall, .int .i64 t.retry, .bool t.done, .slice A2 t.after.length c2] 32) = w2 at hw2 hB2 ⊢
      generalize wr.heap.size = tb at hw2 ⊢
      have HB2 := Lib.hid hB2
      have s0 : w2.drew.cell? ⟨tb, 0, none⟩ = some (.string (sb t.name)) ∧ w2.drew.cell? ⟨tb, 1, none⟩ = some (.int .i64 t.nodes) ∧ w2.drew.cell? ⟨tb, 2, none⟩ = some (.int .i64 t.wall) ∧ w2.drew.cell? ⟨tb, 3, none⟩ = some (.int .i64 t.retry) ∧ w2.drew.cell? ⟨tb, 4, none⟩ = some (.bool t.done) ∧ w2.drew.cell? ⟨tb, 5, none⟩ = some (.slice A2 t.after.length c2) := ⟨(Dag.blk_cell hw2 0).trans rfl, (Dag.blk_cell hw2 1).trans rfl, (Dag.blk_cell hw2 2).trans rfl, (Dag.blk_cell hw2 3).trans rfl, (Dag.blk_cell hw2 4).trans rfl, (Dag.blk_cell hw2 5).trans rfl⟩
      have hWT := fun (W : World) => weight_any t A2 c2 W
      have hTT := fun (W : World) => HTM.out t A2 c2 W
      obtain ⟨av, hav⟩ : ∃ av, wgt t = av := ⟨_, rfl⟩
      obtain ⟨mv, hmv⟩ : ∃ mv, timesW area t = mv := ⟨_, rfl⟩
      rw [hav] at hWT hw0 hw1; rw [hmv] at hTT ht0 ht1
      have HS2 := HS.out
      rw [hav, hmv] at HS2
      have HWT := Lib.hid hWT; have HTT := Lib.hid hTT
      have hmu := fun (W : World) => Clk.mul_any av mv W (by omega)
      have hmx := Clk.isT_yes hw0 hw1
      have hp0 := Int.mul_nonneg hw0 ht0
      have hpy := fun h => Clk.mul_yes hmx ht0 (t := av) (n := mv) h
      have hpn := fun h => Clk.mul_over hmx ht0 (t := av) (n := mv) h
      obtain ⟨p, hpr⟩ : ∃ p, av * mv = p := ⟨_, rfl⟩
      rw [hpr] at HS2 hp0 hpy hpn
      have HS3 := Lib.hid HS2
      have HTK := Lib.hid (sum_take_le (area := area) (ts := f.tasks) (fun u hu => Int.mul_nonneg (HPO.out u hu).1 (HPO.out u hu).2.2.1) (k + 1))
      clear hw2 hB2 hWT hTT hav hmv HS2 HS hpr hmx h0 h1 h2 h3 h4 h5 hw0 hw1 ht0 ht1
      by_cases hpm : p ≤ 1099511627775
      · rw [(hpy hpm).1, (hpy hpm).2] at hmu
        have HMU := Lib.hid hmu
        clear hmu hpy hpn
        go_region_held3 (fun (W : World) => W.cell? ⟨tb, 0, none⟩ = some (.string (sb t.name)) ∧ W.cell? ⟨tb, 1, none⟩ = some (.int .i64 t.nodes) ∧ W.cell? ⟨tb, 2, none⟩ = some (.int .i64 t.wall) ∧ W.cell? ⟨tb, 3, none⟩ = some (.int .i64 t.retry) ∧ W.cell? ⟨tb, 4, none⟩ = some (.bool t.done) ∧ W.cell? ⟨tb, 5, none⟩ = some (.slice A2 t.after.length c2)) (first | exact s2 | exact s1 | exact s0) (first
          | (go_at_call 15; refine (HWT.out _).mono ?_; rintro e x1 ⟨rfl, hb1⟩; have s1 : x1.cell? ⟨tb, 0, none⟩ = some (.string (sb t.name)) ∧ x1.cell? ⟨tb, 1, none⟩ = some (.int .i64 t.nodes) ∧ x1.cell? ⟨tb, 2, none⟩ = some (.int .i64 t.wall) ∧ x1.cell? ⟨tb, 3, none⟩ = some (.int .i64 t.retry) ∧ x1.cell? ⟨tb, 4, none⟩ = some (.bool t.done) ∧ x1.cell? ⟨tb, 5, none⟩ = some (.slice A2 t.after.length c2) := ⟨keep_cell hb1 s0.1, keep_cell hb1 s0.2.1, keep_cell hb1 s0.2.2.1, keep_cell hb1 s0.2.2.2.1, keep_cell hb1 s0.2.2.2.2.1, keep_cell hb1 s0.2.2.2.2.2⟩; have HQ1 := Lib.hid (blw HB2.out (blw (drew_below w2) hb1)); clear hb1)
          | (go_at_fn g; refine (HTT.out _).mono ?_; rintro e x2 ⟨rfl, hb2⟩; have s2 : x2.cell? ⟨tb, 0, none⟩ = some (.string (sb t.name)) ∧ x2.cell? ⟨tb, 1, none⟩ = some (.int .i64 t.nodes) ∧ x2.cell? ⟨tb, 2, none⟩ = some (.int .i64 t.wall) ∧ x2.cell? ⟨tb, 3, none⟩ = some (.int .i64 t.retry) ∧ x2.cell? ⟨tb, 4, none⟩ = some (.bool t.done) ∧ x2.cell? ⟨tb, 5, none⟩ = some (.slice A2 t.after.length c2) := ⟨keep_cell hb2 s1.1, keep_cell hb2 s1.2.1, keep_cell hb2 s1.2.2.1, keep_cell hb2 s1.2.2.2.1, keep_cell hb2 s1.2.2.2.2.1, keep_cell hb2 s1.2.2.2.2.2⟩; have HQ2 := Lib.hid (blw HQ1.out hb2); clear hb2)
          | (go_at_call 50; refine (HMU.out _).mono ?_; rintro e x3 ⟨rfl, rfl⟩))
        all_goals
          by_cases hsum : y + p ≤ 1099511627775
          · obtain ⟨v1, e1⟩ := (add_two hy0 hy1 hp0 hpm).1 hsum
            go_wp2_with (go_at_call 34; refine (add1_any y p _ _ (by simp) (y + p) 0 v1 e1).mono ?_; rintro e x4 ⟨rfl, rfl⟩)
            go_roundw
            case rel => exact ⟨k + 1, y + p, by omega, by go_num, rfl, rfl, by omega, by omega, Lib.hid HS3.out.symm, Lib.hid (blw HQ2.out (al _ _))⟩
            case measure => simp [intOf]; omega
          · obtain ⟨v1, e1⟩ := (add_two hy0 hy1 hp0 hpm).2 (by omega)
            have hE : sumE area f = 6 := by
              unfold sumE
              rw [if_neg (fun e => e HX.out), if_neg]
              have h1 := HTK.out; have h2 := HS3.out
              unfold maxT; omega
            have HE := Lib.hid hE
            have HV : Hid (sumV area f = 0) := Lib.hid (by unfold sumV; rw [hE, if_neg (by decide)])
            clear hE
            go_wp2_with (go_at_call 34; refine (add1_any y p _ _ (by simp) (0) 6 v1 e1).mono ?_; rintro e x4 ⟨rfl, rfl⟩)
            simp only [Exit.noGoto]
            go_ret2
            exact ⟨by rw [HV.out, HE.out]; rfl, blw HQ2.out (al _ _)⟩
      · rw [(hpn (by omega)).1, (hpn (by omega)).2] at hmu
        have HMU := Lib.hid hmu
        clear hmu hpy hpn
        go_region_held3 (fun (W : World) => W.cell? ⟨tb, 0, none⟩ = some (.string (sb t.name)) ∧ W.cell? ⟨tb, 1, none⟩ = some (.int .i64 t.nodes) ∧ W.cell? ⟨tb, 2, none⟩ = some (.int .i64 t.wall) ∧ W.cell? ⟨tb, 3, none⟩ = some (.int .i64 t.retry) ∧ W.cell? ⟨tb, 4, none⟩ = some (.bool t.done) ∧ W.cell? ⟨tb, 5, none⟩ = some (.slice A2 t.after.length c2)) (first | exact s2 | exact s1 | exact s0) (first
          | (go_at_call 15; refine (HWT.out _).mono ?_; rintro e x1 ⟨rfl, hb1⟩; have s1 : x1.cell? ⟨tb, 0, none⟩ = some (.string (sb t.name)) ∧ x1.cell? ⟨tb, 1, none⟩ = some (.int .i64 t.nodes) ∧ x1.cell? ⟨tb, 2, none⟩ = some (.int .i64 t.wall) ∧ x1.cell? ⟨tb, 3, none⟩ = some (.int .i64 t.retry) ∧ x1.cell? ⟨tb, 4, none⟩ = some (.bool t.done) ∧ x1.cell? ⟨tb, 5, none⟩ = some (.slice A2 t.after.length c2) := ⟨keep_cell hb1 s0.1, keep_cell hb1 s0.2.1, keep_cell hb1 s0.2.2.1, keep_cell hb1 s0.2.2.2.1, keep_cell hb1 s0.2.2.2.2.1, keep_cell hb1 s0.2.2.2.2.2⟩; have HQ1 := Lib.hid (blw HB2.out (blw (drew_below w2) hb1)); clear hb1)
          | (go_at_fn g; refine (HTT.out _).mono ?_; rintro e x2 ⟨rfl, hb2⟩; have s2 : x2.cell? ⟨tb, 0, none⟩ = some (.string (sb t.name)) ∧ x2.cell? ⟨tb, 1, none⟩ = some (.int .i64 t.nodes) ∧ x2.cell? ⟨tb, 2, none⟩ = some (.int .i64 t.wall) ∧ x2.cell? ⟨tb, 3, none⟩ = some (.int .i64 t.retry) ∧ x2.cell? ⟨tb, 4, none⟩ = some (.bool t.done) ∧ x2.cell? ⟨tb, 5, none⟩ = some (.slice A2 t.after.length c2) := ⟨keep_cell hb2 s1.1, keep_cell hb2 s1.2.1, keep_cell hb2 s1.2.2.1, keep_cell hb2 s1.2.2.2.1, keep_cell hb2 s1.2.2.2.2.1, keep_cell hb2 s1.2.2.2.2.2⟩; have HQ2 := Lib.hid (blw HQ1.out hb2); clear hb2)
          | (go_at_call 50; refine (HMU.out _).mono ?_; rintro e x3 ⟨rfl, rfl⟩))
        all_goals
          have hE : sumE area f = 6 := by
            unfold sumE
            rw [if_neg (fun e => e HX.out), if_neg]
            have h1 := HTK.out; have h2 := HS3.out
            unfold maxT; omega
          have HE := Lib.hid hE
          have HV : Hid (sumV area f = 0) := Lib.hid (by unfold sumV; rw [hE, if_neg (by decide)])
          clear hE
          go_wp2
          simp only [Exit.noGoto]
          go_ret2
          exact ⟨by rw [HV.out, HE.out]; rfl, HQ2.out⟩
    · obtain rfl : k = f.tasks.length := by omega
      have hF : sumD area f.tasks = y := by rw [HY.out, List.take_length]
      have HE : Hid (sumE area f = 0) := Lib.hid (by unfold sumE; rw [if_neg (fun e => e HX.out), hF, if_pos (by unfold maxT; omega)])
      have HV : Hid (sumV area f = y) := Lib.hid (by unfold sumV; rw [HE.out, if_pos rfl, hF])
      clear hF
      go_wp2
      simp only [Exit.noGoto]
      go_ret2
      exact ⟨by rw [HV.out, HE.out]; rfl, HB.out⟩
end Go.Proofs.YtaiolhanbjndcaaDoor
namespace Go.Proofs.YtaiolhanbjndcaaDoor
open Go.RowKit
open Dag (Ints Own1 Sl num num_len)
set_option linter.unusedVariables false
set_option maxRecDepth 100000

theorem enters_one : ∀ args w, (callFunc 36 args).run Tryd.prog w = .ok (.enter 36 args) w := fun args w => by first | rfl | kernel_rfl
theorem total_any (f : FlowD) (A : Option Addr) (c : Nat) (w : World) (h : Tasks w A c f.tasks) (hT : Tb3 w) (hl : f.name.length ≤ 9000000000000000000) (hn : ∀ t ∈ f.tasks, t.name.length ≤ 9000000000000000000) :
    Calls Tryd.prog 16 #[.agg #[.string (sb f.name), .int .i64 f.deadline, .int .i64 f.priority, .slice A f.tasks.length c]] w fun e w' => e = .returned (.tuple #[.int .i64 (sumV false f), .int .i64 (sumE false f)]) ∧ Below w.heap.size w w' := by
  have HS := Lib.hid fun W (hW : Below w.heap.size w W) => sum_any false _ rfl f A c W (h.below hW) (hT.below hW) hl hn one_any enters_one
  clear h hT hl hn
  go_enter Tryd.func16, Tryd.ntmps16
  go_wp2_with fail
  refine (HS.out _ (al _ _)).mono ?_
  rintro e w1 ⟨rfl, hb1⟩
  have HB1 := Lib.hid (blw (al w (flowO f A c)) hb1)
  clear hb1
  go_wp2
  go_ret2
  exact ⟨rfl, HB1.out⟩
end Go.Proofs.YtaiolhanbjndcaaDoor

