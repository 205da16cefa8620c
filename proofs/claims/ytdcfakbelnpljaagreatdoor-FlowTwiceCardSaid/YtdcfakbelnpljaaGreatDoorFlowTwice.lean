/- FlowTwice: for any workflow and any number the law returns true, and all read afterwards as before. The library's and the program's tables are as the card ties them. -/
import Derived.Test.YtdcfakbelnpljaaGreatDoorRows
import Derived.Test.YtdcfakbelnpljaaGreatDoorCards
import Derived.Test.YtdcfakbelnpljaaGreatDoorTie
import Derived.Test.YtdcfakbelnpljaaGreatDoorFlwMore
import Derived.Test.YtdcfakbelnpljaaGreatDoorFlwCpy
import Derived.Test.YtdcfakbelnpljaaGreatDoorFlwFork
import Derived.Test.YtdcfakbelnpljaaGreatDoorFlwRPrn
import Derived.Test.YtdcfakbelnpljaaGreatDoorFlwTabs
import Derived.WalkKit
import Derived.ProofKit
import Derived.OpenShut
import Derived.ShutString
import Derived.ChangeOld
import Derived.Below
import Derived.SevenTiedAt
namespace Go.Proofs.YtdcfakbelnpljaaGreatDoor
open Go.ChangeShapes Go.WideShapes Go.ChangeAt Go.RowKit Go.Lib
open Go.ChangeMaps (open_string shut_string)
set_option linter.unusedVariables false
set_option maxRecDepth 100000

theorem cnt10_snoc {S : List UInt8} {k : Nat} {b : UInt8} (h : S[k]? = some b) : cnt10 (S.take (k + 1)) = cnt10 (S.take k) + if b = 10 then 1 else 0 := by
  rw [List.take_add_one, h, cnt10_app]
  congr 1
  by_cases e : b = 10
  · subst e; rfl
  · rw [if_neg e]; exact cnt10_free fun x hx => by simp at hx; subst hx; exact e
theorem cnt10_le (S : List UInt8) : cnt10 S ≤ S.length := List.length_filter_le _ _

set_option maxHeartbeats 6400000 in
theorem twice_core (w : World) (f : FlowD) (A : Option Addr) (c : Nat) (S : List UInt8) (n m : Nat) (hn : cnt10 S = n) (hm : S.length = m) (hS : m ≤ 26000) (kind : Int) (hk : 0 ≤ kind ∧ kind ≤ 255)
    (a2 : ByteArray) (d2 p2 at2 e2 y : Int) (q2 : Nat) (has : Bool) (h2 : has = false → e2 = 52 ∧ at2 = n + 1) (hlen : f.tasks.length ≤ 30) (hnm : ∀ t ∈ f.tasks, t.name.length ≤ 500)
    (H : Hid (∀ W, Below w.heap.size w W → Tasks W A c f.tasks))
    (HK : Hid (∀ W, Below w.heap.size w W → Calls Tryz.prog 12 #[] W fun e w' => e = .returned (.bool true) ∧ Below W.heap.size W w'))
    (HL : Hid (∀ W, Below w.heap.size w W → Calls Tryz.prog 16 #[.agg #[.string (sb f.name), .int .i64 f.deadline, .int .i64 f.priority, .slice A f.tasks.length c]] W fun e w' => e = .returned (.bool false) ∧ Below W.heap.size W w'))
    (HP : Hid (∀ W, Below w.heap.size w W → Calls Tryz.prog 17 #[.agg #[.string (sb f.name), .int .i64 f.deadline, .int .i64 f.priority, .slice A f.tasks.length c]] W fun e w' => e = .returned (.tuple #[.string (sb S), .int .i64 0]) ∧ Below W.heap.size W w'))
    (HF : Hid (∀ W, Below w.heap.size w W → Calls Tryz.prog 24 #[.agg #[.string (sb f.name), .int .i64 f.deadline, .int .i64 f.priority, .slice A f.tasks.length c], .string ⟨#[122, 122]⟩] W fun e w' => e = .returned (.tuple #[.int .i64 y, .bool has]) ∧ Below W.heap.size W w'))
    (HQ1 : Hid (∀ W, Below w.heap.size w W → Calls Tryz.prog 13 #[.string (sb S ++ ⟨#[119, 111, 114, 107, 102, 108, 111, 119, 32, 97, 103, 97, 105, 110]⟩)] W fun e w' => (∃ A c, e = .returned (.tuple #[.agg #[.string ⟨#[]⟩, .int .i64 0, .int .i64 0, .slice A 0 c], .int .i64 ((n : Int) + 1), .int .i64 51])) ∧ Below W.heap.size W w'))
    (HQ2 : Hid (∀ W, Below w.heap.size w W → Calls Tryz.prog 13 #[.string (sb S ++ ⟨#[112, 97, 114, 101, 110, 116, 32, 122, 122, 32, 99, 104, 105, 108, 100, 32, 122, 122]⟩)] W fun e w' => (∃ A c, e = .returned (.tuple #[.agg #[.string a2, .int .i64 d2, .int .i64 p2, .slice A q2 c], .int .i64 at2, .int .i64 e2])) ∧ Below W.heap.size W w'))
    (HQ3 : Hid (∀ t ∈ f.tasks, ∀ W, Below w.heap.size w W → Calls Tryz.prog 13 #[.string (sb S ++ ⟨#[106, 111, 98, 32]⟩ ++ sb t.name)] W fun e w' => (∃ A c, e = .returned (.tuple #[.agg #[.string ⟨#[]⟩, .int .i64 0, .int .i64 0, .slice A 0 c], .int .i64 ((n : Int) + 1), .int .i64 51])) ∧ Below W.heap.size W w')) :
    Calls Tryz.prog 11 #[.agg #[.string (sb f.name), .int .i64 f.deadline, .int .i64 f.priority, .slice A f.tasks.length c], .int .u8 kind] w fun e w' => e = .returned (.bool true) ∧ Below w.heap.size w w' := by
  have hz : (sb S).size = m := by rw [sb_size, hm]
  have HSM := Lib.hid hm; have HCN := Lib.hid hn
  have hnm2 : n ≤ m := by rw [← hn, ← hm]; exact cnt10_le S
  clear hm hn
  go_enter Tryz.func11, Tryz.ntmps11
  go_wp2_with fail
  refine (HP.out _ (al _ _)).mono ?_
  rintro e w1 ⟨rfl, hb1⟩
  have HB1 := Lib.hid (blw (al w (flowO f A c)) hb1)
  have HO1 : Hid (w1.heap[w.heap.size]? = some (flowO f A c)) := Lib.hid ((hb1.block _ (by simp)).trans (heap_alloc_new w _))
  clear hb1
  generalize eF : w.heap.size = fb at HO1 ⊢
  obtain ⟨p0, p1, p2', p3, hp⟩ := flowO_cells HO1.out
  go_wp2_with fail
  refine (HL.out _ HB1.out).mono ?_
  rintro e w2 ⟨rfl, hb2⟩
  have HB2 := Lib.hid (blw HB1.out hb2)
  have HO2 := Lib.hid (keep_obj hb2 HO1.out)
  clear hb2 p0 p1 p2' p3 hp
  go_wp2_with fail
  go_loopw [7, 8] (fun nn i wr => ∃ (k q : Nat), k ≤ m ∧ i = .int .i64 k ∧ nn = .int .i64 q ∧ q ≤ k ∧ Hid (cnt10 (S.take k) = q) ∧ Hid (Below w2.heap.size w2 wr)) (fun _ i _ => m - (intOf i).toNat)
  case atStart => exact ⟨0, 0, Nat.zero_le _, rfl, rfl, Nat.le_refl _, Lib.hid rfl, Lib.hid (Below.refl _ _)⟩
  case round =>
    obtain ⟨k, q, hkm, rfl, rfl, hqk, HCK, HB⟩ := hrel
    by_cases hlt : k < m
    · obtain ⟨b, hb⟩ : ∃ b, S[k]? = some b := ⟨_, List.getElem?_eq_getElem (by rw [HSM.out]; exact hlt)⟩
      have hsn := cnt10_snoc hb
      rw [HCK.out] at hsn
      have hlt2 : k < (sb S).size := by rw [hz]; exact hlt
      have hbk : (sb S)[k] = b := by
        have := (List.getElem?_eq_some_iff.1 hb).2
        exact (show (sb S)[k] = S[k] from rfl).trans this
      have hb8 := UInt8.toNat_lt b
      by_cases he : b = 10
      · rw [if_pos he] at hsn
        have g0 : ((b.toNat : Int) == 10) = true := by rw [he]; rfl
        have HSN := Lib.hid hsn
        clear hb hsn he
        go_wp2
        go_roundw
        case rel => exact ⟨k + 1, q + 1, by omega, by go_num, by go_num, by omega, HSN, HB⟩
        case measure => simp [intOf]; omega
      · rw [if_neg he, Nat.add_zero] at hsn
        have g0 : ((b.toNat : Int) == 10) = false := by
          rw [beq_eq_false_iff_ne]; intro e
          exact he (UInt8.toNat_inj.1 (by show b.toNat = 10; omega))
        have HSN := Lib.hid hsn
        clear hb hsn he
        go_wp2
        go_roundw
        case rel => exact ⟨k + 1, q, by omega, by go_num, rfl, by omega, HSN, HB⟩
        case measure => simp [intOf]; omega
    · obtain rfl : k = m := by omega
      have hq : q = n := by rw [← HCK.out, ← HCN.out, List.take_of_length_le (by rw [HSM.out]; omega)]
      have HB3 := Lib.hid (blw HB2.out HB.out)
      have HO3 := Lib.hid (keep_obj HB.out HO2.out)
      subst hq
      clear HB HB2 HO2 HB1 HO1 HCK hlt
      go_wp2_with fail
      refine (HQ1.out _ HB3.out).mono ?_
      rintro e w3 ⟨⟨A3, c3, rfl⟩, hb3⟩
      have HB4 := Lib.hid (blw HB3.out hb3)
      have HO4 := Lib.hid (keep_obj hb3 HO3.out)
      clear hb3 HB3 HO3
      go_wp2_with fail
      refine (HQ2.out _ (blw HB4.out (al _ _))).mono ?_
      rintro e w4 ⟨⟨A4, c4, rfl⟩, hb4⟩
      have HB5 := Lib.hid (blw (blw HB4.out (al _ _)) hb4)
      have HO5 := Lib.hid (keep_obj hb4 (keep_obj (al _ _) HO4.out))
      clear hb4 HB4 HO4
      obtain ⟨p0, p1, p2', p3, hp⟩ := flowO_cells HO5.out
      go_wp2_with fail
      refine (HF.out _ (blw HB5.out (al _ _))).mono ?_
      rintro e w5 ⟨rfl, hb5⟩
      have HB6 := Lib.hid (blw (blw HB5.out (al _ _)) hb5)
      have HO6 := Lib.hid (keep_obj hb5 (keep_obj (al _ _) HO5.out))
      clear hb5 HB5 HO5 p0 p1 p2' p3 hp
      obtain ⟨p0, p1, p2', p3, hp⟩ := flowO_cells HO6.out
      have hgo : has = true ∨ (has = false ∧ e2 = 52 ∧ at2 = q + 1) := by
        cases has
        · exact Or.inr ⟨rfl, h2 rfl⟩
        · exact Or.inl rfl
      clear h2
      by_cases hl0 : f.tasks.length = 0
      · have hz0 : ((f.tasks.length : Int) == 0) = true := by rw [hl0]; rfl
        rcases hgo with rfl | ⟨rfl, rfl, rfl⟩
        · go_wp2_with fail
          refine (HK.out _ HB6.out).mono ?_
          rintro e w6 ⟨rfl, hb6⟩
          go_wp2
          go_ret
          exact ⟨rfl, blw HB6.out hb6⟩
        · go_wp2_with fail
          refine (HK.out _ HB6.out).mono ?_
          rintro e w6 ⟨rfl, hb6⟩
          go_wp2
          go_ret
          exact ⟨rfl, blw HB6.out hb6⟩
      · have hz0 : ((f.tasks.length : Int) == 0) = false := by rw [beq_eq_false_iff_ne]; omega
        obtain ⟨j, hj, hjt, hjl⟩ : ∃ j : Nat, kind % (f.tasks.length : Int) = (j : Int) ∧ kind.tmod (f.tasks.length : Int) = (j : Int) ∧ j < f.tasks.length := by
          obtain ⟨a, rfl⟩ := Int.eq_ofNat_of_zero_le hk.1
          exact ⟨a % f.tasks.length, (Int.natCast_emod _ _).symm, by rw [Int.tmod_eq_emod_of_nonneg (by omega)]; exact (Int.natCast_emod _ _).symm, Nat.mod_lt _ (by omega)⟩
        have hkw : IntKind.i64.wrap kind = kind := by rw [IntKind.wrap_i64]; omega
        obtain ⟨t, ht⟩ : ∃ t, f.tasks[j]? = some t := ⟨_, List.getElem?_eq_getElem hjl⟩
        have htm := List.mem_of_getElem? ht
        have htn := hnm t htm
        have htz : (sb t.name).size ≤ 500 := by rw [sb_size]; exact htn
        obtain ⟨b, off, A7, c7, rfl, k0, k1, k2, k3, k4, k5, _⟩ := (H.out _ HB6.out).cells j t ht
        have HQ4 := Lib.hid (HQ3.out t htm)
        have hlb : b < w5.heap.size := World.block_lt_of_cell? w5 _ k0
        have hlf : fb < w5.heap.size := World.block_lt_of_cell? w5 _ p3
        have hb5 : b ≠ w5.heap.size := Nat.ne_of_lt hlb
        have hf5 : fb ≠ w5.heap.size := Nat.ne_of_lt hlf
        clear ht k1 k2 k3 k4 k5 HQ3 htn htm hnm HQ1 HQ2 HL HP HF
        have hj4 : (⟨#[106, 111, 98, 32]⟩ : ByteArray).size = 4 := rfl
        have ha1 : ∀ W : World, (Op.stringOp .add (sb S) ⟨#[106, 111, 98, 32]⟩).run Tryz.prog W = .ok (.string (sb S ++ ⟨#[106, 111, 98, 32]⟩)) W := fun W => run_string_add_sum W _ _ (by rw [hz, hj4]; omega)
        have ha2 : ∀ W : World, (Op.stringOp .add (sb S ++ ⟨#[106, 111, 98, 32]⟩) (sb t.name)).run Tryz.prog W = .ok (.string (sb S ++ ⟨#[106, 111, 98, 32]⟩ ++ sb t.name)) W := fun W => run_string_add_sum W _ _ (by rw [ByteArray.size_append, hz, hj4]; omega)
        have s0 : w5.drew.cell? ⟨fb, 3, none⟩ = some (.slice (some ⟨b, off, none⟩) f.tasks.length c) ∧ w5.drew.cell? ⟨b, off + j * 6, none⟩ = some (.string (sb t.name)) := ⟨p3, k0⟩
        have hcell : ∀ W : World, Below w5.heap.size w5 W → W.cell? ⟨fb, 3, none⟩ = some (.slice (some ⟨b, off, none⟩) f.tasks.length c) ∧ W.cell? ⟨b, off + j * 6, none⟩ = some (.string (sb t.name)) := fun W hW => ⟨keep_cell hW p3, keep_cell hW k0⟩
        have HCL := Lib.hid hcell
        clear hcell
        have gE : ((q : Int) + 1 == (q : Int) + 1) = true := by simp
        rcases hgo with rfl | ⟨rfl, rfl, rfl⟩
        all_goals
          go_wp2_with fail
          refine wp_region_fork (fun (W : World) => W.cell? ⟨fb, 3, none⟩ = some (.slice (some ⟨b, off, none⟩) f.tasks.length c) ∧ W.cell? ⟨b, off + j * 6, none⟩ = some (.string (sb t.name))) 14 19 _ _ rfl rfl (by kernel_rfl) (by kernel_rfl) (fun _ _ d _ _ h => by cases d <;> exact h) s0 ?_
          clear p0 p1 p2' p3 hp k0 s0
          simp only [List.take_succ_cons, List.take_zero, List.drop_succ_cons, List.drop_zero]
          iterate 14 (refine wpLead_step (v := ?_) (by rfl) ?_ ?_; rotate_left; (intro W hW; (try dsimp only at hW); go_simp; (try with_reducible rfl)); try simp only [Act.put, List.setIfInBounds_toArray, List.set_cons_zero, List.set_cons_succ])
          refine ⟨?_, ?_⟩
          · intro K hK
            go_simp
            refine (HQ4.out _ (blw HB6.out (drew_below w5))).mono ?_
            rintro e w6 ⟨⟨A6, c6, rfl⟩, hb6⟩
            have HB7 := Lib.hid (blw (blw HB6.out (drew_below w5)) hb6)
            have HX7 := Lib.hid (blw (drew_below w5) hb6)
            clear hb6
            dsimp only
            refine hK.out _ _ (HCL.out _ HX7.out) ?_
            clear hK K
            try simp only [Act.put, List.setIfInBounds_toArray, List.set_cons_zero, List.set_cons_succ]
            iterate 4 (refine wpLead_step (v := ?_) (by rfl) ?_ ?_; rotate_left; (intro W hW; (try dsimp only at hW); go_simp; (try with_reducible rfl)); try simp only [Act.put, List.setIfInBounds_toArray, List.set_cons_zero, List.set_cons_succ])
            intro K hK
            go_simp
            refine hK.out _ _ (HCL.out _ (blw HX7.out (al _ _))) ?_
            clear hK K
            try simp only [Act.put, List.setIfInBounds_toArray, List.set_cons_zero, List.set_cons_succ]
            have hge : w.heap.size ≤ w6.heap.size := HB7.out.size
            have hge5 : w5.heap.size ≤ w6.heap.size := HX7.out.size
            intro K hK
            refine step_storeA rfl 25 _ _ rfl w6.heap.size #[.string ⟨#[]⟩, .int .i64 0, .int .i64 0, .slice A6 0 c6] zero4 25 (by simp [Act.eval]) (by simp [Act.eval]) (heap_alloc_new w6 _) rfl info_flow (flow4_one _ _ _ _ _ _) ?_
            intro w7 hp7
            have HB8 := Lib.hid (PutA.below hp7 (blw HB7.out (al _ _)) hge)
            have HX8 := Lib.hid (PutA.below hp7 (blw HX7.out (al _ _)) hge5)
            clear hp7
            refine hK.out _ _ (HCL.out _ HX8.out) ?_
            clear hK K
            try simp only [Act.put]
            intro K hK
            go_simp
            refine hK.out _ _ (HCL.out _ HX8.out) ?_
            clear hK K
            try simp only [Act.put, List.setIfInBounds_toArray, List.set_cons_zero, List.set_cons_succ]
            intro K hK
            go_simp
            refine hK.out _ _ (HCL.out _ HX8.out) ?_
            clear hK K
            try simp only [Act.put, List.setIfInBounds_toArray, List.set_cons_zero, List.set_cons_succ]
            refine wpMid_nil ?_
            go_wp2_with fail
            refine (HK.out _ HB8.out).mono ?_
            rintro e w8 ⟨rfl, hb8⟩
            go_wp2
            go_ret
            exact ⟨rfl, blw HB8.out hb8⟩
          · intro K hK
            go_simp
            refine hK.out _ _ (HCL.out _ (blw (drew_below w5) (al _ _))) ?_
            clear hK K
            try simp only [List.setIfInBounds_toArray, List.set_cons_zero, List.set_cons_succ]
            intro K hK
            go_simp
            refine (HQ4.out _ (blw (blw HB6.out (drew_below w5)) (al _ _))).mono ?_
            rintro e w6 ⟨⟨A6, c6, rfl⟩, hb6⟩
            have HB7 := Lib.hid (blw (blw (blw HB6.out (drew_below w5)) (al _ _)) hb6)
            have HX7 := Lib.hid (blw (blw (drew_below w5) (al _ _)) hb6)
            have HZ7 := Lib.hid (keep_obj hb6 (heap_alloc_new w5.drew (.cells zero4 25)))
            have hge : w.heap.size ≤ w5.drew.heap.size := HB6.out.size
            clear hb6
            dsimp only
            refine hK.out _ _ (HCL.out _ HX7.out) ?_
            clear hK K
            try simp only [Act.put, List.setIfInBounds_toArray, List.set_cons_zero, List.set_cons_succ]
            iterate 4 (refine wpLead_step (v := ?_) (by rfl) ?_ ?_; rotate_left; (intro W hW; (try dsimp only at hW); go_simp; (try with_reducible rfl)); try simp only [Act.put, List.setIfInBounds_toArray, List.set_cons_zero, List.set_cons_succ])
            have hge5 : w5.heap.size ≤ w5.drew.heap.size := Nat.le_refl _
            intro K hK
            refine step_storeA rfl 25 _ _ rfl w5.drew.heap.size #[.string ⟨#[]⟩, .int .i64 0, .int .i64 0, .slice A6 0 c6] zero4 25 (by simp [Act.eval]) (by simp [Act.eval]) HZ7.out rfl info_flow (flow4_one _ _ _ _ _ _) ?_
            intro w7 hp7
            have HB8 := Lib.hid (PutA.below hp7 HB7.out hge)
            have HX8 := Lib.hid (PutA.below hp7 HX7.out hge5)
            clear hp7
            refine hK.out _ _ (HCL.out _ HX8.out) ?_
            clear hK K
            try simp only [Act.put]
            intro K hK
            go_simp
            refine hK.out _ _ (HCL.out _ HX8.out) ?_
            clear hK K
            try simp only [Act.put, List.setIfInBounds_toArray, List.set_cons_zero, List.set_cons_succ]
            intro K hK
            go_simp
            refine hK.out _ _ (HCL.out _ HX8.out) ?_
            clear hK K
            try simp only [Act.put, List.setIfInBounds_toArray, List.set_cons_zero, List.set_cons_succ]
            refine wpMid_nil ?_
            go_wp2_with fail
            refine (HK.out _ HB8.out).mono ?_
            rintro e w8 ⟨rfl, hb8⟩
            go_wp2
            go_ret
            exact ⟨rfl, blw HB8.out hb8⟩

set_option maxHeartbeats 3200000 in
theorem walk_FlowTwice (w : World) (hT : Tb3 w) (f : FlowD) (A : Option Addr) (c : Nat) (h : Tasks w A c f.tasks) (hs : Small f) (kind : Int) (hw : (Lit.int .u8 kind).wf = true) :
    Calls Tryz.prog 11 #[.agg #[.string (sb f.name), .int .i64 f.deadline, .int .i64 f.priority, .slice A f.tasks.length c], .int .u8 kind] w fun e w' => e = .returned (.bool true) ∧ Below w.heap.size w w' := by
  have hk := fun W (hW : Below w.heap.size w W) => known_any W (hT.below hW)
  have hl := fun W (hW : Below w.heap.size w W) => long_any f A c W (h.below hW) hs
  have hP := fun W (hW : Below w.heap.size w W) => print_all f A c W (h.below hW) (hT.below hW) (Nat.le_trans hs.1 (by decide)) fun t ht => Nat.le_trans (hs.2 t ht).1 (by decide)
  have HK := Lib.hid hk
  by_cases hgood : longD f = false ∧ checkE f = 0
  · obtain ⟨hlong, hx⟩ := hgood
    rw [hlong] at hl
    rw [if_pos hx, hx] at hP
    have hp := print_len2 hx hlong
    obtain ⟨hn, _⟩ := longD_no hlong
    obtain ⟨_, htn⟩ := longD_names hlong
    have hkb : 0 ≤ kind ∧ kind ≤ 255 := by
      have := hw
      simp [Lit.wf] at this
      rw [show IntKind.u8.min = 0 from rfl, show IntKind.u8.max = 255 from rfl] at this
      omega
    have pq : ∀ (l : List UInt8), l.length ≤ 27000 → ∀ W, Below w.heap.size w W → Calls Tryz.prog 13 #[.string (sb l)] W (RetParse W (parseD l)) := fun l hl W hW => parse_all l W (Nat.le_trans hl (by decide)) (hT.below hW)
    have bad : ∀ (x : List UInt8) (e : Int), x.length ≤ 600 → parseD (printL f ++ x) = (noFlow, cnt10 (printL f) + 1, e) → ∀ W, Below w.heap.size w W → Calls Tryz.prog 13 #[.string (sb (printL f ++ x))] W fun e' w' => (∃ A c, e' = .returned (.tuple #[.agg #[.string ⟨#[]⟩, .int .i64 0, .int .i64 0, .slice A 0 c], .int .i64 ((cnt10 (printL f) : Int) + 1), .int .i64 e])) ∧ Below W.heap.size W w' := by
      intro x e hxl he W hW
      have := pq (printL f ++ x) (by rw [List.length_append]; omega) W hW
      rw [he] at this
      refine this.mono ?_
      rintro e' w' ⟨hb, A', c', he', _⟩
      exact ⟨⟨A', c', he'⟩, hb⟩
    have HQ1 := bad tail1 51 (by decide) (twice1 hx hlong)
    have HF := fun W (hW : Below w.heap.size w W) => find_flow f A c W (h.below hW) zzB _ rfl
    obtain ⟨⟨g2, i2, e2⟩, hg2⟩ : ∃ r, parseD (printL f ++ tail2) = r := ⟨_, rfl⟩
    have HQ2 : ∀ W, Below w.heap.size w W → Calls Tryz.prog 13 #[.string (sb (printL f ++ tail2))] W fun e' w' => (∃ A c, e' = .returned (.tuple #[.agg #[.string (sb g2.name), .int .i64 g2.deadline, .int .i64 g2.priority, .slice A g2.tasks.length c], .int .i64 (i2 : Int), .int .i64 e2])) ∧ Below W.heap.size W w' := by
      intro W hW
      have := pq (printL f ++ tail2) (by rw [List.length_append, show tail2.length = 18 from rfl]; omega) W hW
      rw [hg2] at this
      refine this.mono ?_
      rintro e' w' ⟨hb, A', c', he', _⟩
      exact ⟨⟨A', c', he'⟩, hb⟩
    have HQ3 : ∀ t ∈ f.tasks, ∀ W, Below w.heap.size w W → Calls Tryz.prog 13 #[.string (sb (printL f) ++ ⟨#[106, 111, 98, 32]⟩ ++ sb t.name)] W fun e' w' => (∃ A c, e' = .returned (.tuple #[.agg #[.string ⟨#[]⟩, .int .i64 0, .int .i64 0, .slice A 0 c], .int .i64 ((cnt10 (printL f) : Int) + 1), .int .i64 51])) ∧ Below W.heap.size W w' := by
      intro t ht W hW
      have hz : sb (printL f) ++ ⟨#[106, 111, 98, 32]⟩ ++ sb t.name = sb (printL f ++ (jobB ++ 32 :: t.name)) := by
        rw [show (⟨#[106, 111, 98, 32]⟩ : ByteArray) = sb [106, 111, 98, 32] from rfl, sb_cat, sb_cat]
        congr 1
        simp [jobB]
      rw [hz]
      have := htn t ht
      exact bad _ 51 (by simp [jobB]; omega) (twice3 hx hlong ht) W hW
    have hz1 : sb (printL f) ++ ⟨#[119, 111, 114, 107, 102, 108, 111, 119, 32, 97, 103, 97, 105, 110]⟩ = sb (printL f ++ tail1) := by
      rw [show (⟨#[119, 111, 114, 107, 102, 108, 111, 119, 32, 97, 103, 97, 105, 110]⟩ : ByteArray) = sb tail1 from rfl, sb_cat]
    have hz2 : sb (printL f) ++ ⟨#[112, 97, 114, 101, 110, 116, 32, 122, 122, 32, 99, 104, 105, 108, 100, 32, 122, 122]⟩ = sb (printL f ++ tail2) := by
      rw [show (⟨#[112, 97, 114, 101, 110, 116, 32, 122, 122, 32, 99, 104, 105, 108, 100, 32, 122, 122]⟩ : ByteArray) = sb tail2 from rfl, sb_cat]
    refine twice_core w f A c (printL f) (cnt10 (printL f)) _ rfl rfl hp kind hkb (sb g2.name) g2.deadline g2.priority i2 e2 _ g2.tasks.length (decide (0 ≤ findI f.tasks zzB)) (fun hh => ?_) hn (fun t ht => (htn t ht).1) (Lib.hid fun W hW => h.below hW) HK (Lib.hid hl) (Lib.hid hP) (Lib.hid HF) (Lib.hid (by rw [hz1]; exact HQ1)) (Lib.hid (by rw [hz2]; exact HQ2)) (Lib.hid HQ3)
    have hni : zzB ∉ names f.tasks := fun hm => by
      have h0 := of_decide_eq_false hh
      unfold findI at h0
      rw [if_pos hm] at h0
      omega
    have := twice2 hx hlong hni
    rw [hg2] at this
    injection this with _ this
    injection this with t1 t2
    exact ⟨t2, by rw [t1]; simp⟩
  · have hno : longD f = true ∨ (longD f = false ∧ (checkE f != 0) = true) := by
      cases hlong : longD f
      · refine Or.inr ⟨rfl, ?_⟩
        rw [bne_iff_ne]
        exact fun e => hgood ⟨hlong, e⟩
      · exact Or.inl rfl
    obtain ⟨S, hS⟩ : ∃ S, sb (if checkE f = 0 then printL f else []) = S := ⟨_, rfl⟩
    rw [hS] at hP
    have HL := Lib.hid hl; have HP := Lib.hid hP
    clear hl hk hP hgood hS
    generalize longD f = lg at HL hno
    generalize checkE f = x at HP hno
    rcases hno with rfl | ⟨rfl, hx⟩
    all_goals
      go_enter Tryz.func11, Tryz.ntmps11
      go_wp2_with fail
      refine (HP.out _ (al _ _)).mono ?_
      rintro e w1 ⟨rfl, hb1⟩
      have HB1 := Lib.hid (blw (al w (flowO f A c)) hb1)
      have HO1 : Hid (w1.heap[w.heap.size]? = some (flowO f A c)) := Lib.hid ((hb1.block _ (by simp)).trans (heap_alloc_new w _))
      clear hb1
      generalize eF : w.heap.size = fb at HO1 ⊢
      obtain ⟨p0, p1, p2', p3, hp⟩ := flowO_cells HO1.out
      go_wp2_with fail
      refine (HL.out _ HB1.out).mono ?_
      rintro e w2 ⟨rfl, hb2⟩
      have HB2 := Lib.hid (blw HB1.out hb2)
      clear hb2 p0 p1 p2' p3 hp
      go_wp2_with fail
      refine (HK.out _ HB2.out).mono ?_
      rintro e w3 ⟨rfl, hb3⟩
      go_wp2
      go_ret
      exact ⟨rfl, blw HB2.out hb3⟩

namespace flowTwice
theorem own : ownKnob Tryz.prog.godebug = none := by kernel_rfl
theorem laidOut : laidOutB Tryz.prog = true := by kernel_rfl
set_option maxRecDepth 100000 in
theorem lifted (os : Os) (started : os.Started) (H : Type) (enc : TypeId × Value → H) :
    ReturnsInHanded {} Tryz.checked os 11 .any (fun w args => (Rows.flowTwiceSpec.pre enc Tryz.prog Tryz.f11 [] false w args ∧ laidMetH Tryz.prog laid7 w) ∧ sizedMet enc Tryz.prog Tryz.f11 (OpenSpec.ofChange Rows.flowTwiceSpec) false w args)
      (Rows.flowTwiceSpec.post enc Tryz.prog Tryz.f11 false true false false) := by
  refine returnsInHanded_of_change_and (C := Tryz.checked) (X := fun w _ => laidMetH Tryz.prog laid7 w) (fun _ _ _ hh h => h.of_heap hh) own started (by kernel_rfl) Tryz.func11
    (ChangeSpec.witness_shaped (enc := enc) (C := Tryz.checked) (os := os) (X := fun w _ => laidMetH Tryz.prog laid7 w) false (World.laidAll Tryz.prog os laid7) #[.agg #[.string ByteArray.empty, .int .i64 0, .int .i64 0, .slice none 0 0], .int .u8 0] 8 (World.laidAll_os _ _ _)
      (World.shaped_of_ZipB (by kernel_rfl) (by kernel_rfl)) (by kernel_rfl) (by kernel_rfl) (by kernel_rfl)
      (by rw [MakeChecks.laidMetH_plain _ _ _ (by kernel_rfl)]; exact laidMet_laidAll _ (by kernel_rfl) (by kernel_rfl))) ?_
  intro W base args ds gs before hval0 hW _ hsz hL _
  have hval : ∀ (j : Nat) t v, Tryz.f11.params[j]? = some t → args[j]? = some v → Value.okWide Tryz.prog W .any base t v := hval0
  have hW' := hW
  obtain ⟨p, q, hA0, hV, rfl, _, _⟩ := hW
  have hA : DataW.TrodAll enc Tryz.prog W 0 (fun _ => true) true Tryz.f11.params.toList args.toList ds p := hA0
  rw [Tryz.params11] at hA hval
  obtain ⟨v0, vs0, d0, ds0, p0, q0, hargs, rfl, rfl, h0, r0⟩ := trodAll_cons hA
  obtain ⟨v1, vs1, d1, ds1, p1, q1, rfl, rfl, rfl, h1, r1⟩ := trodAll_cons r0
  obtain ⟨rfl, rfl, rfl⟩ := trodAll_nil r1
  obtain rfl : args = #[v0, v1] := by cases args; simp_all
  obtain ⟨rfl, rfl⟩ := trodVars_none hV
  have k0 := h0
  have lt0 : ∀ x ∈ p0, x.block < W.heap.size := by obtain ⟨m, hm⟩ := k0; exact DataW.trod_lt m _ _ _ hm
  obtain ⟨cs0, e0, _⟩ := okWide_struct Tryz.underlying25 (hval 0 25 v0 rfl rfl)
  obtain ⟨fuel0, hf0⟩ := h0
  rw [show v0.cells.toList = cs0.toList from by rw [e0]; rfl] at hf0
  obtain ⟨z0, A0, c0, hcs0, w0, s0⟩ := flow_arg hf0
  obtain rfl : cs0 = #[.string (sb z0.name), .int .i64 z0.deadline, .int .i64 z0.priority, .slice A0 z0.tasks.length c0] := by rw [← Array.toArray_toList (xs := cs0), hcs0]
  subst e0
  have s0 := s0 (weights_at hsz (j := 0) (t := 25) rfl rfl)
  clear hf0 hcs0
  obtain ⟨a1, rfl, rfl, rfl, w1⟩ := open_int Tryz.underlying5 (hval 1 5 v1 rfl rfl) h1
  clear hA0 hval0
  rw [MakeChecks.laidMetH_plain _ _ _ (by kernel_rfl)] at hL
  refine (walk_FlowTwice W (tabs_of hL) z0 A0 c0 w0 s0 a1 w1).mono fun e W' ⟨he, bel⟩ => ?_
  subst he
  exact ⟨_, rfl, _, _, _, [], _, [], hW', trodAll_mk1 (shut_bool Tryz.underlying4 _), (trodAll_cons_mk (Below.trod laidOut (by kernel_rfl) (of_decide_eq_true (by kernel_rfl)) k0 bel lt0) (trodAll_cons_mk (shut_int Tryz.underlying5 w1) trodAll_mk0)), rfl, bel.frame _, fun h => by cases h⟩
theorem said : Rows.FlowTwiceSaid :=
  OpenClaim.holds_of_wide 11 Tryz.f11 rfl rfl rfl rfl rfl rfl rfl ⟨rfl, rfl, rfl, rfl, rfl⟩ rfl rfl rfl rfl rfl (by kernel_rfl) Tryz.func11 (by kernel_rfl)
    (of_decide_eq_true (by kernel_rfl)) (by unfold Func.isWrapper; first | (rw [if_pos (by decide +kernel)]; kernel_rfl) | (rw [if_neg (by decide +kernel)]; exact ⟨rfl, rfl⟩))
    (fun os started H enc _ => lifted os started H enc)
theorem plain (f : FuncId) (fn : Func) (hf : Tryz.pinned.checked.prog.funcNamed "timekeeper/timekeeperlaw06.FlowTwice" = some f) (hfn : Tryz.pinned.checked.prog.funcs[f]? = some fn) :
    false = Tryz.pinned.checked.prog.looks [] ∧ ∀ (j : Nat) t, fn.params[j]? = some t → Tryz.pinned.checked.prog.wantsStandIn t = false := by
  obtain rfl : f = 11 := Option.some.inj ((show Tryz.prog.funcNamed "timekeeper/timekeeperlaw06.FlowTwice" = some 11 by kernel_rfl).symm.trans hf) |>.symm
  obtain rfl : fn = Tryz.f11 := (Option.some.inj (Tryz.func11.symm.trans hfn)).symm
  refine ⟨by kernel_rfl, fun j t ht => ?_⟩
  rw [Tryz.params11] at ht
  have hm : t ∈ [25, 5] := by simpa using Array.mem_of_getElem? ht
  have hall : ([25, 5].all fun u => !Tryz.prog.wantsStandIn u) = true := by kernel_rfl
  exact (show Tryz.prog.wantsStandIn t = false by simpa using List.all_eq_true.1 hall t hm)
theorem proved : Rows.FlowTwiceCardSaid :=
  Claim7.holds_tied_plain_at .later [] _ _ _ _ said (fun _ h => by cases h) (by kernel_rfl) (fun _ h => by cases h) flowTwice_row_tie rfl ⟨rfl, rfl⟩ (by kernel_rfl) rfl plain (by kernel_rfl)
#print axioms proved
end flowTwice
end Go.Proofs.YtdcfakbelnpljaaGreatDoor
