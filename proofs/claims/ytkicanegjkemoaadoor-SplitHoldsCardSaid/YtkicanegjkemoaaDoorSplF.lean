/- Layer 8: the same windows; the chapter's workflow in memory; known. -/
import Derived.Test.YtkicanegjkemoaaDoorSplD
namespace Go.Proofs.YtkicanegjkemoaaDoor
open Go.RowKit Go.Shelf
open Dag (Ints Own1 Sl num num_len num_get Gr newE order behL order_ord)
set_option linter.unusedVariables false
set_option maxRecDepth 100000

theorem same_win (l : List WinD) (n : Nat) (hn : l.length = n) (w : World) (A B : Option Addr) (c d : Nat) (h1 : Wins w A c l) (h2 : Wins w B d l) :
    Calls Tryd.prog 12 #[.slice A n c, .slice B n d] w fun e w' => e = .returned (.bool true) ∧ Below w.heap.size w w' := by
  have hnl : n ≤ 9223372036854775807 := by rw [← hn]; exact Nat.le_trans h1.cap (by have := h1.top; simpa [maxLen] using this)
  have H1 := Lib.hid h1; have H2 := Lib.hid h2; have HN := Lib.hid hn
  clear h1 h2 hn
  go_enter Tryd.func12, Tryd.ntmps12
  go_wp2
  go_loopw [5] (fun i wr => ∃ k : Nat, k ≤ n ∧ i = .int .i64 k ∧ Hid (Below w.heap.size w wr)) (fun i _ => n - (intOf i).toNat)
  case atStart => exact ⟨0, Nat.zero_le _, rfl, Lib.hid (Below.refl _ _)⟩
  case round =>
    obtain ⟨k, hk, rfl, HB⟩ := hrel
    by_cases hlt : k < n
    · obtain ⟨x, hx⟩ : ∃ x, l[k]? = some x := ⟨_, List.getElem?_eq_getElem (by rw [HN.out]; exact hlt)⟩
      obtain ⟨b1, o1, e1, c1, c2⟩ := (H1.out.below HB.out).cells k x hx
      obtain ⟨b2, o2, e2, c3, c4⟩ := (H2.out.below HB.out).cells k x hx
      subst e1 e2
      clear hx
      go_wp2_with fail
      go_quiet (fail)
      go_wp2
      go_roundw
      case rel => exact ⟨k + 1, by omega, by go_num, Lib.hid (blw HB.out (bdrew _ _))⟩
      case measure => simp [intOf]; omega
    · obtain rfl : k = n := by omega
      go_wp2
      go_ret
      exact ⟨rfl, HB.out⟩
end Go.Proofs.YtkicanegjkemoaaDoor
namespace Go.Proofs.YtkicanegjkemoaaDoor
open Go.RowKit Go.Shelf
open Dag (Ints Own1 Sl num num_len num_get Gr newE order behL order_ord)
set_option linter.unusedVariables false
set_option maxRecDepth 100000

def threeF : FlowD := ⟨[119], 0, 0, [⟨[97], 1, 3, 0, false, []⟩, ⟨[98], 1, 5, 0, false, []⟩, ⟨[99], 1, 2, 0, false, [0, 1]⟩]⟩
theorem t3a : winE threeF 10 20 = 0 := by kernel_rfl
theorem t3b : winL threeF 10 20 = [⟨10, 18⟩, ⟨10, 18⟩, ⟨15, 20⟩] := by kernel_rfl
theorem t3c : shrL threeF 10 20 = [⟨10, 14⟩, ⟨10, 17⟩, ⟨17, 20⟩] := by kernel_rfl
theorem t3d : winE threeF 10 16 = 60 := by kernel_rfl
theorem t3e : winL threeF 10 16 = [] := by kernel_rfl

def RetF3 (w : World) (e : Ending) (w' : World) : Prop := ∃ A c, e = .returned (.agg #[.string (sb threeF.name), .int .i64 threeF.deadline, .int .i64 threeF.priority, .slice A threeF.tasks.length c]) ∧ Tasks w' A c threeF.tasks ∧ Below w.heap.size w w'
theorem three8_any (w : World) : Calls Tryd.prog 17 #[] w (RetF3 w) := by
  go_enter Tryd.func17, Tryd.ntmps17
  go_wp2
  have q0 := heap_alloc_new w (.cells #[.string ⟨#[119]⟩, .int .i64 0, .int .i64 0, .slice (some ⟨w.heap.size + 1 + 1, 0, none⟩) 3 3] 24)
  have q1 := heap_alloc_new (w.alloc (.cells #[.string ⟨#[119]⟩, .int .i64 0, .int .i64 0, .slice (some ⟨w.heap.size + 1 + 1, 0, none⟩) 3 3] 24)) (.cells #[.int .i64 0, .int .i64 1] 3)
  have q2 := heap_alloc_new ((w.alloc (.cells #[.string ⟨#[119]⟩, .int .i64 0, .int .i64 0, .slice (some ⟨w.heap.size + 1 + 1, 0, none⟩) 3 3] 24)).alloc (.cells #[.int .i64 0, .int .i64 1] 3)) (.cells #[.string ⟨#[97]⟩, .int .i64 1, .int .i64 3, .int .i64 0, .bool false, .slice none 0 0, .string ⟨#[98]⟩, .int .i64 1, .int .i64 5, .int .i64 0, .bool false, .slice none 0 0, .string ⟨#[99]⟩, .int .i64 1, .int .i64 2, .int .i64 0, .bool false, .slice (some ⟨w.heap.size + 1, 0, none⟩) 2 2] 43)
  have hbl := blw (blw (al w (.cells #[.string ⟨#[119]⟩, .int .i64 0, .int .i64 0, .slice (some ⟨w.heap.size + 1 + 1, 0, none⟩) 3 3] 24)) (al _ (.cells #[.int .i64 0, .int .i64 1] 3))) (al _ (.cells #[.string ⟨#[97]⟩, .int .i64 1, .int .i64 3, .int .i64 0, .bool false, .slice none 0 0, .string ⟨#[98]⟩, .int .i64 1, .int .i64 5, .int .i64 0, .bool false, .slice none 0 0, .string ⟨#[99]⟩, .int .i64 1, .int .i64 2, .int .i64 0, .bool false, .slice (some ⟨w.heap.size + 1, 0, none⟩) 2 2] 43))
  have k0 := (Below.heap_alloc _ (.cells #[.string ⟨#[97]⟩, .int .i64 1, .int .i64 3, .int .i64 0, .bool false, .slice none 0 0, .string ⟨#[98]⟩, .int .i64 1, .int .i64 5, .int .i64 0, .bool false, .slice none 0 0, .string ⟨#[99]⟩, .int .i64 1, .int .i64 2, .int .i64 0, .bool false, .slice (some ⟨w.heap.size + 1, 0, none⟩) 2 2] 43) _ (by simp only [World.size_alloc]; omega)).trans ((Below.heap_alloc _ (.cells #[.int .i64 0, .int .i64 1] 3) _ (by simp only [World.size_alloc]; omega)).trans q0)
  have k1 := (Below.heap_alloc _ (.cells #[.string ⟨#[97]⟩, .int .i64 1, .int .i64 3, .int .i64 0, .bool false, .slice none 0 0, .string ⟨#[98]⟩, .int .i64 1, .int .i64 5, .int .i64 0, .bool false, .slice none 0 0, .string ⟨#[99]⟩, .int .i64 1, .int .i64 2, .int .i64 0, .bool false, .slice (some ⟨w.heap.size + 1, 0, none⟩) 2 2] 43) _ (by simp only [World.size_alloc]; omega)).trans q1
  simp only [World.size_alloc] at k1 q2
  generalize ((w.alloc (.cells #[.string ⟨#[119]⟩, .int .i64 0, .int .i64 0, .slice (some ⟨w.heap.size + 1 + 1, 0, none⟩) 3 3] 24)).alloc (.cells #[.int .i64 0, .int .i64 1] 3)).alloc (.cells #[.string ⟨#[97]⟩, .int .i64 1, .int .i64 3, .int .i64 0, .bool false, .slice none 0 0, .string ⟨#[98]⟩, .int .i64 1, .int .i64 5, .int .i64 0, .bool false, .slice none 0 0, .string ⟨#[99]⟩, .int .i64 1, .int .i64 2, .int .i64 0, .bool false, .slice (some ⟨w.heap.size + 1, 0, none⟩) 2 2] 43) = W at k0 k1 q2 hbl ⊢
  refine bodyPost_ret (results_cell_row rfl _ _ _ _ _ _ _ rfl k0 Tryd.underlying24 rfl (by kernel_rfl)) rfl ?_
  refine ⟨some ⟨w.heap.size + 1 + 1, 0, none⟩, 3, rfl, ⟨fun k t ht => ?_, by decide, by decide, (fun e => by cases e), by decide⟩, hbl⟩
  have c := fun i => Dag.blk_cell q2 i
  match k, ht with
  | 0, ht => injection ht with ht; subst ht; exact ⟨_, 0, none, 0, rfl, c 0, c 1, c 2, c 3, c 4, c 5, Sl.empty _⟩
  | 1, ht => injection ht with ht; subst ht; exact ⟨_, 0, none, 0, rfl, c 6, c 7, c 8, c 9, c 10, c 11, Sl.empty _⟩
  | 2, ht =>
    injection ht with ht; subst ht
    refine ⟨_, 0, some ⟨w.heap.size + 1, 0, none⟩, 2, rfl, c 12, c 13, c 14, c 15, c 16, c 17, ⟨fun j u hu => ?_, by decide, by decide, fun e => by cases e⟩⟩
    have d := fun i => Dag.blk_cell k1 i
    match j, hu with
    | 0, hu => injection hu with hu; subst hu; exact ⟨_, 0, rfl, d 0⟩
    | 1, hu => injection hu with hu; subst hu; exact ⟨_, 0, rfl, d 1⟩
    | j + 2, hu => simp [Dag.ints] at hu
  | k + 3, ht => simp [threeF] at ht

theorem lit3_win {W : World} {g : Nat} {a1 a2 a3 a4 a5 a6 : Int} (h : W.heap[g]? = some (.cells #[.int .i64 a1, .int .i64 a2, .int .i64 a3, .int .i64 a4, .int .i64 a5, .int .i64 a6] 37 (0, 0))) : Wins W (some ⟨g, 0, none⟩) 3 [⟨a1, a2⟩, ⟨a3, a4⟩, ⟨a5, a6⟩] := by
  have c := fun i => Dag.blk_cell h i
  refine ⟨fun k x hx => ?_, by simp, by decide, fun e => by cases e⟩
  match k, hx with
  | 0, hx => injection hx with hx; subst hx; exact ⟨_, 0, rfl, c 0, c 1⟩
  | 1, hx => injection hx with hx; subst hx; exact ⟨_, 0, rfl, c 2, c 3⟩
  | 2, hx => injection hx with hx; subst hx; exact ⟨_, 0, rfl, c 4, c 5⟩
  | k + 3, hx => simp at hx
theorem fla3 {w : World} {A : Option Addr} {c : Nat} (h : Tasks w A c threeF.tasks) (hT : Tb3 w) : FlA w threeF A c := ⟨h, hT, by decide, by decide, by decide, by decide⟩
set_option maxHeartbeats 1600000 in
theorem known8_any (w : World) (hT : Tb3 w) : Calls Tryd.prog 7 #[] w fun e w' => e = .returned (.bool true) ∧ Below w.heap.size w w' := by
  have HT := Lib.hid fun W (hW : Below w.heap.size w W) => hT.below hW
  have H3 := Lib.hid fun (W : World) => three8_any W
  have p1 := fun A c W h => windows_any threeF A c 10 20 W h
  have p2 := fun A c W h => shares_any threeF A c 10 20 W h
  have p3 := fun A c W h => windows_any threeF A c 10 16 W h
  rw [t3a, t3b] at p1
  rw [t3a, t3c] at p2
  rw [t3d, t3e] at p3
  have P1 := Lib.hid p1; have P2 := Lib.hid p2; have P3 := Lib.hid p3
  clear p1 p2 p3 hT
  go_enter Tryd.func7, Tryd.ntmps7
  go_wp2_with fail
  refine (H3.out _).mono ?_
  rintro e w1 ⟨A1, c1, rfl, ht1, hb1⟩
  have HF1 := Lib.hid (fla3 ht1 (HT.out _ hb1)); have HB1 := Lib.hid hb1
  clear ht1 hb1
  go_wp2_with fail
  refine (P1.out _ _ _ HF1.out).mono ?_
  rintro e w2 ⟨B2, d2, he, hw2, hb2⟩
  have he1 : e = .returned (.tuple #[.slice B2 3 d2, .int .i64 0]) := he
  subst he1
  have HW2 := Lib.hid hw2; have HB2 := Lib.hid (blw HB1.out hb2)
  clear hw2 hb2 he
  go_wp2_with fail
  refine (H3.out _).mono ?_
  rintro e w3 ⟨A3, c3, rfl, ht3, hb3⟩
  have HB3 := Lib.hid (blw HB2.out hb3)
  have HF3 := Lib.hid (fla3 ht3 (HT.out _ HB3.out)); have HW3 := Lib.hid (HW2.out.below hb3)
  clear ht3 hb3
  go_wp2_with fail
  refine (P2.out _ _ _ HF3.out).mono ?_
  rintro e w4 ⟨B4, d4, he, hw4, hb4⟩
  have he1 : e = .returned (.tuple #[.slice B4 3 d4, .int .i64 0]) := he
  subst he1
  have HS4 := Lib.hid hw4; have HB4 := Lib.hid (blw HB3.out hb4); have HW4 := Lib.hid (HW3.out.below hb4)
  clear hw4 hb4 he
  go_wp2_with fail
  refine (H3.out _).mono ?_
  rintro e w5 ⟨A5, c5, rfl, ht5, hb5⟩
  have HB5 := Lib.hid (blw HB4.out hb5)
  have HF5 := Lib.hid (fla3 ht5 (HT.out _ HB5.out)); have HW5 := Lib.hid (HW4.out.below hb5); have HS5 := Lib.hid (HS4.out.below hb5)
  clear ht5 hb5
  go_wp2_with fail
  refine (P3.out _ _ _ HF5.out).mono ?_
  rintro e w6 ⟨B6, d6, he, hw6, hb6⟩
  have he1 : e = .returned (.tuple #[.slice B6 0 d6, .int .i64 60]) := he
  subst he1
  have HB6 := Lib.hid (blw HB5.out hb6); have HW6 := Lib.hid (HW5.out.below hb6); have HS6 := Lib.hid (HS5.out.below hb6)
  clear hw6 hb6 he
  go_wp2_with fail
  refine (same_win _ 3 rfl _ _ _ _ _ (HW6.out.below (al _ _)) (lit3_win (heap_alloc_new w6 _))).mono ?_
  rintro e w7 ⟨rfl, hb7⟩
  have HB7 := Lib.hid (blw (blw HB6.out (al _ _)) hb7)
  have HS7 := Lib.hid ((HS6.out.below (al w6 (.cells #[.int .i64 10, .int .i64 18, .int .i64 10, .int .i64 18, .int .i64 15, .int .i64 20] 37))).below hb7)
  clear hb7
  go_wp2_with fail
  refine (same_win _ 3 rfl _ _ _ _ _ (HS7.out.below (al _ _)) (lit3_win (heap_alloc_new w7 _))).mono ?_
  rintro e w8 ⟨rfl, hb8⟩
  have HB8 := Lib.hid (blw (blw HB7.out (al _ _)) hb8)
  clear hb8
  go_wp2
  go_ret
  exact ⟨rfl, HB8.out⟩
end Go.Proofs.YtkicanegjkemoaaDoor

