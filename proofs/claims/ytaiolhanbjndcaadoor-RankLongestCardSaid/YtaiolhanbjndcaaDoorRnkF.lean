/- Layer 7: the chapter's workflow in memory; known. -/
import Derived.Test.YtaiolhanbjndcaaDoorRnkOrP
import Derived.Test.YtaiolhanbjndcaaDoorRnkWay
import Derived.Test.YtaiolhanbjndcaaDoorMGra
namespace Go.Proofs.YtaiolhanbjndcaaDoor
open Go.RowKit Go.Shelf
open Dag (Ints Own1 Sl num num_len num_get Gr newE order behL order_ord)
set_option linter.unusedVariables false
set_option maxRecDepth 100000
def three7F : FlowD := ⟨[119], 0, 0, [⟨[97], 1, 3, 0, false, []⟩, ⟨[98], 1, 5, 0, false, []⟩, ⟨[99], 1, 2, 0, false, [0, 1]⟩]⟩
def RetT7 (w : World) (e : Ending) (w' : World) : Prop := ∃ A c, e = .returned (.agg #[.string (sb three7F.name), .int .i64 three7F.deadline, .int .i64 three7F.priority, .slice A three7F.tasks.length c]) ∧ Tasks w' A c three7F.tasks ∧ Below w.heap.size w w'
theorem three7_any (w : World) : Calls Tryd.prog 18 #[] w (RetT7 w) := by
  go_enter Tryd.func18, Tryd.ntmps18
  go_wp2
  have q0 := heap_alloc_new w (.cells #[.string ⟨#[119]⟩, .int .i64 0, .int .i64 0, .slice (some ⟨w.heap.size + 1 + 1, 0, none⟩) 3 3] 24)
  have q1 := heap_alloc_new (w.alloc (.cells #[.string ⟨#[119]⟩, .int .i64 0, .int .i64 0, .slice (some ⟨w.heap.size + 1 + 1, 0, none⟩) 3 3] 24)) (.cells #[.int .i64 0, .int .i64 1] 3)
  have q2 := heap_alloc_new ((w.alloc (.cells #[.string ⟨#[119]⟩, .int .i64 0, .int .i64 0, .slice (some ⟨w.heap.size + 1 + 1, 0, none⟩) 3 3] 24)).alloc (.cells #[.int .i64 0, .int .i64 1] 3)) (.cells #[.string ⟨#[97]⟩, .int .i64 1, .int .i64 3, .int .i64 0, .bool false, .slice none 0 0, .string ⟨#[98]⟩, .int .i64 1, .int .i64 5, .int .i64 0, .bool false, .slice none 0 0, .string ⟨#[99]⟩, .int .i64 1, .int .i64 2, .int .i64 0, .bool false, .slice (some ⟨w.heap.size + 1, 0, none⟩) 2 2] 32)
  have hbl := blw (blw (al w (.cells #[.string ⟨#[119]⟩, .int .i64 0, .int .i64 0, .slice (some ⟨w.heap.size + 1 + 1, 0, none⟩) 3 3] 24)) (al _ (.cells #[.int .i64 0, .int .i64 1] 3))) (al _ (.cells #[.string ⟨#[97]⟩, .int .i64 1, .int .i64 3, .int .i64 0, .bool false, .slice none 0 0, .string ⟨#[98]⟩, .int .i64 1, .int .i64 5, .int .i64 0, .bool false, .slice none 0 0, .string ⟨#[99]⟩, .int .i64 1, .int .i64 2, .int .i64 0, .bool false, .slice (some ⟨w.heap.size + 1, 0, none⟩) 2 2] 32))
  have k0 := (Below.heap_alloc _ (.cells #[.string ⟨#[97]⟩, .int .i64 1, .int .i64 3, .int .i64 0, .bool false, .slice none 0 0, .string ⟨#[98]⟩, .int .i64 1, .int .i64 5, .int .i64 0, .bool false, .slice none 0 0, .string ⟨#[99]⟩, .int .i64 1, .int .i64 2, .int .i64 0, .bool false, .slice (some ⟨w.heap.size + 1, 0, none⟩) 2 2] 32) _ (by simp only [World.size_alloc]; omega)).trans ((Below.heap_alloc _ (.cells #[.int .i64 0, .int .i64 1] 3) _ (by simp only [World.size_alloc]; omega)).trans q0)
  have k1 := (Below.heap_alloc _ (.cells #[.string ⟨#[97]⟩, .int .i64 1, .int .i64 3, .int .i64 0, .bool false, .slice none 0 0, .string ⟨#[98]⟩, .int .i64 1, .int .i64 5, .int .i64 0, .bool false, .slice none 0 0, .string ⟨#[99]⟩, .int .i64 1, .int .i64 2, .int .i64 0, .bool false, .slice (some ⟨w.heap.size + 1, 0, none⟩) 2 2] 32) _ (by simp only [World.size_alloc]; omega)).trans q1
  simp only [World.size_alloc] at k1 q2
  generalize ((w.alloc (.cells #[.string ⟨#[119]⟩, .int .i64 0, .int .i64 0, .slice (some ⟨w.heap.size + 1 + 1, 0, none⟩) 3 3] 24)).alloc (.cells #[.int .i64 0, .int .i64 1] 3)).alloc (.cells #[.string ⟨#[97]⟩, .int .i64 1, .int .i64 3, .int .i64 0, .bool false, .slice none 0 0, .string ⟨#[98]⟩, .int .i64 1, .int .i64 5, .int .i64 0, .bool false, .slice none 0 0, .string ⟨#[99]⟩, .int .i64 1, .int .i64 2, .int .i64 0, .bool false, .slice (some ⟨w.heap.size + 1, 0, none⟩) 2 2] 32) = W at k0 k1 q2 hbl ⊢
  refine bodyPost_ret (results_cell_row rfl _ _ _ _ _ _ _ rfl k0 Tryd.underlying24 rfl (by kernel_rfl)) rfl ?_
  refine ⟨some ⟨w.heap.size + 1 + 1, 0, none⟩, 3, rfl, ⟨fun k t ht => ?_, by decide, by decide, (fun e => by cases e), by decide⟩, hbl⟩
  have c := fun i => Dag.blk_cell q2 i
  match k, ht with
  | 0, ht => injection ht with ht; subst ht; exact ⟨_, 0, none, 0, rfl, c 0, c 1, c 2, c 3, c 4, c 5, Sl.empty _⟩
  | 1, ht => injection ht with ht; subst ht; exact ⟨_, 0, none, 0, rfl, c 6, c 7, c 8, c 9, c 10, c 11, Sl.empty _⟩
  | 2, ht =>
    injection ht with ht; subst ht
    refine ⟨_, 0, some ⟨w.heap.size + 1, 0, none⟩, 2, rfl, c 12, c 13, c 14, c 15, c 16, c 17, ⟨fun j u hu => ?_, by decide, by decide, fun e => by cases e⟩⟩
    have d := fun i => Dag.blk_cell k1 i
    match j, hu with
    | 0, hu => injection hu with hu; subst hu; exact ⟨_, 0, rfl, d 0⟩
    | 1, hu => injection hu with hu; subst hu; exact ⟨_, 0, rfl, d 1⟩
    | j + 2, hu => simp [Dag.ints] at hu
  | k + 3, ht => simp [three7F] at ht

theorem fla37 {w : World} {A : Option Addr} {c : Nat} (h : Tasks w A c three7F.tasks) (hT : Tb3 w) : FlA w three7F A c := ⟨h, hT, by decide, by decide, by decide, by decide⟩
def noneF : FlowD := ⟨[], 0, 0, []⟩
theorem fla0 {w : World} (hT : Tb3 w) : FlA w noneF none 0 := ⟨⟨fun k t ht => by simp [noneF] at ht, by decide, by decide, (fun e => rfl), by decide⟩, hT, by decide, by decide, by decide, by decide⟩
theorem lit_ints {W : World} {g : Nat} {cs : Array Value} (xs : List Int) (hc : cs = (Dag.ints xs).toArray) (h : W.heap[g]? = some (.cells cs 3 (0, 0))) (hl : xs.length ≤ 1000) : Ints W (some ⟨g, 0, none⟩) xs.length xs := by
  subst hc
  refine ⟨fun k u hk => ⟨g, 0, rfl, ?_⟩, by simp [Dag.ints], by simp [maxLen]; omega, fun e => by cases e⟩
  rw [Nat.zero_add, Dag.blk_cell h, List.getElem?_toArray]; exact hk
theorem t7u : rankE three7F (upD three7F.tasks) = 0 := by kernel_rfl
theorem t7uv : rankV three7F (upD three7F.tasks) = [5, 7, 2] := by kernel_rfl
theorem t7d : rankE three7F (dnD three7F.tasks) = 0 := by kernel_rfl
theorem t7dv : rankV three7F (dnD three7F.tasks) = [0, 0, 5] := by kernel_rfl
theorem t7n : lengthV three7F = 7 := by kernel_rfl
theorem t7p : num (pathV three7F) = [1, 2] := by kernel_rfl
theorem t7o : orderV three7F = [1, 0, 2] := by kernel_rfl
theorem t7z : rankE noneF (upD noneF.tasks) = 5 := by kernel_rfl
theorem t7zv : rankV noneF (upD noneF.tasks) = [] := by kernel_rfl
set_option maxHeartbeats 3200000 in
theorem known7_any (w : World) (hT : Tb3 w) : Calls Tryd.prog 8 #[] w fun e w' => e = .returned (.bool true) ∧ Below w.heap.size w w' := by
  have HT := Lib.hid fun W (hW : Below w.heap.size w W) => hT.below hW
  have H3 := Lib.hid fun (W : World) => three7_any W
  have p1 := fun A c W h => up_any three7F A c W h
  have p2 := fun A c W (h : FlA W three7F A c) => down_any three7F A c W h.tasks h.tb (by decide) (by decide) (by decide) (by decide)
  have p3 := fun A c W h => length_any three7F A c W h
  have p4 := fun A c W h => path_any three7F A c W h
  have p5 := fun A c W h => orderP_any three7F A c W h
  have p6 := fun A c W h => up_any noneF A c W h
  unfold RetU at p1 p2 p6
  rw [t7u, t7uv] at p1
  rw [t7d, t7dv] at p2
  rw [t7n, t7u] at p3
  rw [t7p, t7u] at p4
  rw [t7o, t7u] at p5
  rw [t7z, t7zv] at p6
  have P1 := Lib.hid p1; have P2 := Lib.hid p2; have P3 := Lib.hid p3; have P4 := Lib.hid p4; have P5 := Lib.hid p5; have P6 := Lib.hid p6
  clear p1 p2 p3 p4 p5 p6 hT
  have HB0 := Lib.hid (Below.refl w.heap.size w)
  go_enter Tryd.func8, Tryd.ntmps8
  go_wp2_with fail
  refine (H3.out _).mono ?_
  rintro e w1 ⟨A, c, rfl, ht, hb⟩
  have HB1 := Lib.hid (blw HB0.out hb)
  have HF := Lib.hid (fla37 ht (HT.out _ HB1.out))
  clear ht hb
  go_wp2_with fail
  refine (P1.out _ _ _ HF.out).mono ?_
  rintro e w2 ⟨B, d, he, hi, hb⟩
  obtain ⟨B2, hB2⟩ : ∃ x, x = B := ⟨_, rfl⟩
  obtain ⟨d2, hd2⟩ : ∃ x, x = d := ⟨_, rfl⟩
  subst hB2 hd2
  have he1 : e = .returned (.tuple #[.slice B2 3 d2, .int .i64 0]) := he
  subst he1
  have HB2 := Lib.hid (blw HB1.out hb)
  have HU := Lib.hid hi
  clear hi hb he
  go_wp2_with fail
  refine (H3.out _).mono ?_
  rintro e w3 ⟨A, c, rfl, ht, hb⟩
  have HB3 := Lib.hid (blw HB2.out hb)
  have HF := Lib.hid (fla37 ht (HT.out _ HB3.out))
  have HU := Lib.hid (HU.out.below hb)
  clear ht hb
  go_wp2_with fail
  refine (P2.out _ _ _ HF.out).mono ?_
  rintro e w4 ⟨B, d, he, hi, hb⟩
  obtain ⟨B4, hB4⟩ : ∃ x, x = B := ⟨_, rfl⟩
  obtain ⟨d4, hd4⟩ : ∃ x, x = d := ⟨_, rfl⟩
  subst hB4 hd4
  have he1 : e = .returned (.tuple #[.slice B4 3 d4, .int .i64 0]) := he
  subst he1
  have HB4 := Lib.hid (blw HB3.out hb)
  have HU := Lib.hid (HU.out.below hb)
  have HD := Lib.hid hi
  clear hi hb he
  go_wp2_with fail
  refine (H3.out _).mono ?_
  rintro e w5 ⟨A, c, rfl, ht, hb⟩
  have HB5 := Lib.hid (blw HB4.out hb)
  have HF := Lib.hid (fla37 ht (HT.out _ HB5.out))
  have HU := Lib.hid (HU.out.below hb)
  have HD := Lib.hid (HD.out.below hb)
  clear ht hb
  go_wp2_with fail
  refine (P3.out _ _ _ HF.out).mono ?_
  rintro e w6 ⟨rfl, hb⟩
  have HB6 := Lib.hid (blw HB5.out hb)
  have HU := Lib.hid (HU.out.below hb)
  have HD := Lib.hid (HD.out.below hb)
  clear hb
  go_wp2_with fail
  refine (H3.out _).mono ?_
  rintro e w7 ⟨A, c, rfl, ht, hb⟩
  have HB7 := Lib.hid (blw HB6.out hb)
  have HF := Lib.hid (fla37 ht (HT.out _ HB7.out))
  have HU := Lib.hid (HU.out.below hb)
  have HD := Lib.hid (HD.out.below hb)
  clear ht hb
  go_wp2_with fail
  refine (P4.out _ _ _ HF.out).mono ?_
  rintro e w8 ⟨B, d, he, hi, hb⟩
  obtain ⟨B8, hB8⟩ : ∃ x, x = B := ⟨_, rfl⟩
  obtain ⟨d8, hd8⟩ : ∃ x, x = d := ⟨_, rfl⟩
  subst hB8 hd8
  have he1 : e = .returned (.tuple #[.slice B8 2 d8, .int .i64 0]) := he
  subst he1
  have HB8 := Lib.hid (blw HB7.out hb)
  have HU := Lib.hid (HU.out.below hb)
  have HD := Lib.hid (HD.out.below hb)
  have HP := Lib.hid hi
  clear hi hb he
  go_wp2_with fail
  refine (H3.out _).mono ?_
  rintro e w9 ⟨A, c, rfl, ht, hb⟩
  have HB9 := Lib.hid (blw HB8.out hb)
  have HF := Lib.hid (fla37 ht (HT.out _ HB9.out))
  have HU := Lib.hid (HU.out.below hb)
  have HD := Lib.hid (HD.out.below hb)
  have HP := Lib.hid (HP.out.below hb)
  clear ht hb
  go_wp2_with fail
  refine (P5.out _ _ _ HF.out).mono ?_
  rintro e w10 ⟨B, d, he, hi, hb⟩
  obtain ⟨B10, hB10⟩ : ∃ x, x = B := ⟨_, rfl⟩
  obtain ⟨d10, hd10⟩ : ∃ x, x = d := ⟨_, rfl⟩
  subst hB10 hd10
  have he1 : e = .returned (.tuple #[.slice B10 3 d10, .int .i64 0]) := he
  subst he1
  have HB10 := Lib.hid (blw HB9.out hb)
  have HU := Lib.hid (HU.out.below hb)
  have HD := Lib.hid (HD.out.below hb)
  have HP := Lib.hid (HP.out.below hb)
  have HO := Lib.hid hi
  clear hi hb he
  have HF := Lib.hid (fla0 (HT.out _ HB10.out))
  go_wp2_with fail
  refine (P6.out _ _ _ HF.out).mono ?_
  rintro e w11 ⟨B, d, he, hi, hb⟩
  obtain ⟨B11, hB11⟩ : ∃ x, x = B := ⟨_, rfl⟩
  obtain ⟨d11, hd11⟩ : ∃ x, x = d := ⟨_, rfl⟩
  subst hB11 hd11
  have he1 : e = .returned (.tuple #[.slice B11 0 d11, .int .i64 5]) := he
  subst he1
  have HB11 := Lib.hid (blw HB10.out hb)
  have HU := Lib.hid (HU.out.below hb)
  have HD := Lib.hid (HD.out.below hb)
  have HP := Lib.hid (HP.out.below hb)
  have HO := Lib.hid (HO.out.below hb)
  have HZ := Lib.hid hi
  clear hi hb he
  go_wp2_with fail
  refine (Dag.same_any [5, 7, 2] _ _ (by first | rfl | simp) (by first | rfl | simp) _ _ _ _ _ (HU.out.below (al _ _)) (lit_ints [5, 7, 2] rfl (heap_alloc_new w11 _) (by simp))).mono ?_
  rintro e w12 ⟨rfl, hb⟩
  have HB12 := Lib.hid (blw (blw HB11.out (al _ _)) hb)
  have HD := Lib.hid ((HD.out.below (al w11 (.cells #[.int .i64 5, .int .i64 7, .int .i64 2] 3))).below hb)
  have HP := Lib.hid ((HP.out.below (al w11 (.cells #[.int .i64 5, .int .i64 7, .int .i64 2] 3))).below hb)
  have HO := Lib.hid ((HO.out.below (al w11 (.cells #[.int .i64 5, .int .i64 7, .int .i64 2] 3))).below hb)
  have HZ := Lib.hid ((HZ.out.below (al w11 (.cells #[.int .i64 5, .int .i64 7, .int .i64 2] 3))).below hb)
  clear hb
  go_wp2_with fail
  refine (Dag.same_any [0, 0, 5] _ _ (by first | rfl | simp) (by first | rfl | simp) _ _ _ _ _ (HD.out.below (al _ _)) (lit_ints [0, 0, 5] rfl (heap_alloc_new w12 _) (by simp))).mono ?_
  rintro e w13 ⟨rfl, hb⟩
  have HB13 := Lib.hid (blw (blw HB12.out (al _ _)) hb)
  have HP := Lib.hid ((HP.out.below (al w12 (.cells #[.int .i64 0, .int .i64 0, .int .i64 5] 3))).below hb)
  have HO := Lib.hid ((HO.out.below (al w12 (.cells #[.int .i64 0, .int .i64 0, .int .i64 5] 3))).below hb)
  have HZ := Lib.hid ((HZ.out.below (al w12 (.cells #[.int .i64 0, .int .i64 0, .int .i64 5] 3))).below hb)
  clear hb
  go_wp2_with fail
  refine (Dag.same_any [1, 2] _ _ (by first | rfl | simp) (by first | rfl | simp) _ _ _ _ _ (HP.out.below (al _ _)) (lit_ints [1, 2] rfl (heap_alloc_new w13 _) (by simp))).mono ?_
  rintro e w14 ⟨rfl, hb⟩
  have HB14 := Lib.hid (blw (blw HB13.out (al _ _)) hb)
  have HO := Lib.hid ((HO.out.below (al w13 (.cells #[.int .i64 1, .int .i64 2] 3))).below hb)
  have HZ := Lib.hid ((HZ.out.below (al w13 (.cells #[.int .i64 1, .int .i64 2] 3))).below hb)
  clear hb
  go_wp2_with fail
  refine (Dag.same_any [1, 0, 2] _ _ (by first | rfl | simp) (by first | rfl | simp) _ _ _ _ _ (HO.out.below (al _ _)) (lit_ints [1, 0, 2] rfl (heap_alloc_new w14 _) (by simp))).mono ?_
  rintro e w15 ⟨rfl, hb⟩
  have HB15 := Lib.hid (blw (blw HB14.out (al _ _)) hb)
  have HZ := Lib.hid ((HZ.out.below (al w14 (.cells #[.int .i64 1, .int .i64 0, .int .i64 2] 3))).below hb)
  clear hb
  go_wp2
  go_ret
  exact ⟨rfl, HB15.out⟩
theorem fla_of7 {w : World} {f : FlowD} {A : Option Addr} {c : Nat} (h : Tasks w A c f.tasks) (hT : Tb3 w) (hl : longD f = false) : FlA w f A c := by
  obtain ⟨hn, _⟩ := longD_no hl
  obtain ⟨h1, h2⟩ := longD_names hl
  exact ⟨h, hT, by omega, fun t ht => by have := (h2 t ht).1; omega, hn, fun t ht => by have := (h2 t ht).2; omega⟩
end Go.Proofs.YtaiolhanbjndcaaDoor

