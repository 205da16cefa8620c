/- Layer 7: a graph's order, to be written; the closure of Order. -/
import Derived.Test.YtaiolhanbjndcaaDoorMLen
import Derived.Test.YtaiolhanbjndcaaDoorMSrt
import Derived.Test.YtaiolhanbjndcaaDoorMSri
namespace Go.Proofs.YtaiolhanbjndcaaDoor.Dag
open Go.RowKit
set_option linter.unusedVariables false
/-- a copy that is one's own -/
def RetOwn (w : World) (xs : List Int) (n : Nat) (e : Ending) (w' : World) : Prop := ∃ A c, e = .returned (.slice A n c) ∧ OwnI w' w.heap.size (.slice A n c) xs ∧ Below w.heap.size w w'
set_option maxHeartbeats 800000 in
theorem clone_own (xs : List Int) (n : Nat) (he : xs.length = n) (w : World) (A : Option Addr) (c : Nat) (h : Ints w A c xs) (hn : n ≤ 1000) :
    Calls Tryd.prog 38 #[.slice A n c] w (RetOwn w xs n) := by
  have HE := Lib.hid he
  have q30 := fun (W : World) (a : Option Addr) (n c n' c' : Nat) => Lib.run_eql_slice_nil W 27 3 a n c n' c' Tryd.underlying27
  cases A with
  | none =>
    have hc := Sl.nil h rfl
    have hx : xs = [] := List.eq_nil_of_length_eq_zero (by have := h.len; omega)
    subst hx hc
    obtain rfl : n = 0 := by simpa using he.symm
    clear he
    go_enter Tryd.func38, Tryd.ntmps38
    go_wp2
    go_ret
    exact ⟨none, 0, rfl, Own1.nil _ _ _, Below.refl _ _⟩
  | some a =>
    have H := Lib.hid h; clear h he
    have own0 : Own1 (w.alloc (.cells #[] 3)) w.heap.size 3 (.slice (some ⟨w.heap.size, 0, none⟩) 0 0) [] := by
      have := Own1.lit w w.heap.size 3 (Nat.le_refl _) [] (by simp [maxLen])
      simpa using this
    have OWN := Lib.hid own0; clear own0
    go_enter Tryd.func38, Tryd.ntmps38
    go_wp2_with (at_builtin; refine wpList_appg rfl _ _ 27 3 (.int .i64 0) 8 Tryd.underlying27 info_int rfl (by decide) rfl w.heap.size (.slice (some ⟨w.heap.size, 0, none⟩) 0 0) [] rfl OWN.out (some a) c n (ints xs) (by rw [ints_len, HE.out]) rfl (Sl.below H.out ((Below.refl _ _).alloc (Nat.le_refl _) _)) (ints_one xs) (by rw [ints_len, HE.out]; simp; omega) (by simp) ?_; intro l A9 c9 w9 el ho9 hg9 hb9 hbl9; have HO9 := Lib.hid ho9; have HBL := Lib.hid hbl9; have EL := Lib.hid el; clear ho9 hg9 hb9 hbl9 el)
    go_ret
    have el : l = ints xs := by rw [EL.out, List.nil_append]
    subst el
    refine ⟨A9, c9, by rw [ints_len, HE.out]; rfl, ?_, ((Below.refl _ _).alloc (Nat.le_refl _) _).trans HBL.out⟩
    have := HO9.out
    rwa [ints_len, HE.out] at this
theorem order_own (w : World) (E : List (List Int)) (p : Value) (h : Gr w E p) (hn : E.length ≤ 30) : Calls Tryd.prog 21 #[p] w (RetOwn w (num (order E)) E.length) := by
  obtain ⟨g, A1, c1, A2, c2, A3, c3, rfl, hg, h1, h2, h3⟩ := h.ex
  have e2 := blk_cell hg 2
  simp only [show (#[Value.slice A1 E.length c1, Value.slice A2 E.length c2, Value.slice A3 E.length c3] : Array Value)[2]? = some (.slice A3 E.length c3) from rfl] at e2
  have H3 := Lib.hid h3
  have HF := Lib.hid h.full
  clear h hg h1 h2 h3
  go_enter Tryd.func21, Tryd.ntmps21
  go_wp2_with fail
  refine (clone_own _ _ (by rw [num_len, HF.out]) _ _ _ H3.out (by omega)).mono ?_
  rintro e w1 ⟨A, c, rfl, ho, hb⟩
  have HO := Lib.hid ho
  have HB := Lib.hid hb
  clear ho hb
  go_wp2
  go_ret
  exact ⟨A, c, rfl, HO.out, HB.out⟩
end Go.Proofs.YtaiolhanbjndcaaDoor.Dag
namespace Go.Proofs.YtaiolhanbjndcaaDoor
open Go.RowKit Go.Shelf Sri
open Dag (Ints Own1 OwnI Sl num num_len num_get Gr newE order behL order_ord RetOwn)
open Srt (fallL fall_all fall_sorted keyS keyS_fr Mix SrtOn)
set_option linter.unusedVariables false
set_option maxRecDepth 100000
/-- what the sort asks of its closure -/
def ordOk (xs : List Int) (s : StepD) : Prop := ∃ v : Nat, s.fr = (v : Int) ∧ xs[v]? = some (-s.at_)
theorem cmpV_neg2 (x y : Int) : cmpV y x = cmpV (-x) (-y) := by
  unfold cmpV
  repeat' split
  all_goals omega
theorem ordc_any (xs : List Int) (n : Nat) (hn : xs.length = n) (ub : Nat) (B : Option Addr) (d : Nat) (s u : StepD) (hs : ordOk xs s) (hu : ordOk xs u) (w : World) (hI : Ints w B d xs) (hc : w.cell? ⟨ub, 0, none⟩ = some (.slice B n d)) :
    Calls Tryd.prog 23 #[.int .i64 s.fr, .int .i64 u.fr, .pointer (some ⟨ub, 0, none⟩)] w fun e w' => e = .returned (.int .i64 (cmpV s.at_ u.at_)) ∧ Below w.heap.size w w' := by
  obtain ⟨v, ev, hv⟩ := hs
  obtain ⟨x, ex, hx⟩ := hu
  have hvn : v < n := by rw [← hn]; exact (List.getElem?_eq_some_iff.1 hv).1
  have hxn : x < n := by rw [← hn]; exact (List.getElem?_eq_some_iff.1 hx).1
  obtain ⟨b1, o1, e1, c1⟩ := hI.cells v (.int .i64 (-s.at_)) (by unfold Dag.ints; rw [List.getElem?_map, hv]; rfl)
  obtain ⟨b2, o2, e2, c2⟩ := hI.cells x (.int .i64 (-u.at_)) (by unfold Dag.ints; rw [List.getElem?_map, hx]; rfl)
  subst e1
  injection e2 with e2; injection e2 with e3 e4; subst e3 e4
  have HC := Lib.hid fun (W : World) => compare_any (-u.at_) (-s.at_) W
  have hcv : cmpV s.at_ u.at_ = cmpV (-u.at_) (-s.at_) := cmpV_neg2 _ _
  obtain ⟨r, hr⟩ : ∃ r, cmpV s.at_ u.at_ = r := ⟨_, rfl⟩
  rw [← hcv, hr] at HC
  rw [hr, ev, ex]
  obtain ⟨y1, hy1⟩ : ∃ y, -s.at_ = y := ⟨_, rfl⟩
  obtain ⟨y2, hy2⟩ : ∃ y, -u.at_ = y := ⟨_, rfl⟩
  rw [hy1] at c1 HC
  rw [hy2] at c2 HC
  clear hI hn hv hx hr hcv ev ex hy1 hy2
  go_enter Tryd.func23, Tryd.ntmps23
  go_wp2_with fail
  have s0 : w.drew.cell? ⟨ub, 0, none⟩ = some (.slice (some ⟨b1, o1, none⟩) n d) ∧ w.drew.cell? ⟨b1, o1 + v, none⟩ = some (.int .i64 y1) ∧ w.drew.cell? ⟨b1, o1 + x, none⟩ = some (.int .i64 y2) ∧ Below w.heap.size w w.drew := ⟨hc, c1, c2, dr w⟩
  clear hc c1 c2
  go_region_held3 (fun (W : World) => W.cell? ⟨ub, 0, none⟩ = some (.slice (some ⟨b1, o1, none⟩) n d) ∧ W.cell? ⟨b1, o1 + v, none⟩ = some (.int .i64 y1) ∧ W.cell? ⟨b1, o1 + x, none⟩ = some (.int .i64 y2) ∧ Below w.heap.size w W) (first | exact s0) (first
    | (go_at_call 24; refine (HC.out _).mono ?_; rintro e x1 ⟨rfl, rfl⟩))
  go_wp2
  go_ret
  exact ⟨rfl, s0.2.2.2⟩
end Go.Proofs.YtaiolhanbjndcaaDoor

