/- FlowSpaces: for any workflow and any string that are together of bulk at most 1048576 the law returns true, and all read afterwards as before. The library's and the program's tables are as the card ties them. -/
import Derived.Test.YtdcfakbelnpljaaGreatDoorRows
import Derived.Test.YtdcfakbelnpljaaGreatDoorCards
import Derived.Test.YtdcfakbelnpljaaGreatDoorTie
import Derived.Test.YtdcfakbelnpljaaGreatDoorFlwSpc
import Derived.Test.YtdcfakbelnpljaaGreatDoorFlwRSame
import Derived.Test.YtdcfakbelnpljaaGreatDoorFlwRPrn
import Derived.Test.YtdcfakbelnpljaaGreatDoorFlwWrd
import Derived.Test.YtdcfakbelnpljaaGreatDoorFlwTabU
import Derived.WalkKit
import Derived.ProofKit
import Derived.OpenShut
import Derived.ShutString
import Derived.Deep.Slices
import Derived.PlainAid
import Derived.Deep.DeepHandedRow
import Derived.ChangeOld
import Derived.Below
import Derived.SevenTiedAt
namespace Go.Proofs.YtdcfakbelnpljaaGreatDoor
open Go.ChangeShapes Go.WideShapes Go.ChangeAt Go.RowKit Go.Lib
open Go.ChangeMaps (open_string shut_string)
open Txt (wordsE)
set_option linter.unusedVariables false
set_option maxRecDepth 100000

def sofar (m S : List UInt8) (k : Nat) : List UInt8 := 35 :: m ++ 10 :: spT m (S.take k)
theorem sofar_step {m S : List UInt8} {k : Nat} {b : UInt8} (h : S[k]? = some b) : sofar m S (k + 1) = sofar m S k ++ spB m b := by
  unfold sofar
  rw [spT_snoc h]; simp
theorem sofar_len (m S : List UInt8) (k : Nat) (hm : m.length ≤ 100) (hS : S.length ≤ 26000) : (sofar m S k).length ≤ 2800000 := by
  have h1 := spT_len m (S.take k)
  have h2 := List.length_take_le' k S
  have h3 : (S.take k).length * (m.length + 6) ≤ 26000 * 106 := Nat.mul_le_mul (by omega) (by omega)
  unfold sofar
  simp only [List.length_append, List.length_cons]
  omega
theorem sofar_zero (m S : List UInt8) : (⟨#[35]⟩ : ByteArray) ++ sb m ++ ⟨#[10]⟩ = sb (sofar m S 0) := by
  rw [show (⟨#[35]⟩ : ByteArray) = sb [35] from rfl, show (⟨#[10]⟩ : ByteArray) = sb [10] from rfl, sb_cat, sb_cat]
  congr 1
theorem spB_ten (T m : List UInt8) : sb T ++ ⟨#[32, 32, 35, 32]⟩ ++ sb m ++ ⟨#[10, 10]⟩ = sb (T ++ spB m 10) := by
  rw [show (⟨#[32, 32, 35, 32]⟩ : ByteArray) = sb [32, 32, 35, 32] from rfl, show (⟨#[10, 10]⟩ : ByteArray) = sb [10, 10] from rfl, sb_cat, sb_cat, sb_cat]
  congr 1
  unfold spB
  rw [if_neg (by decide), if_pos rfl]
  simp
theorem ext_one {S : List UInt8} {k : Nat} {b : UInt8} (h : S[k]? = some b) : (sb S).extract k (k + 1) = sb [b] := by
  obtain ⟨hk, hb⟩ := List.getElem?_eq_some_iff.1 h
  have h1 := Txt.lst_one (s := sb S) (k := k) (by rw [sb_size]; exact hk)
  rw [← sb_data ((sb S).extract k (k + 1))]
  congr 1
  refine h1.trans ?_
  congr 1

set_option maxHeartbeats 6400000 in
theorem spaces_no (w : World) (f : FlowD) (A : Option Addr) (c : Nat) (note S : ByteArray) (x y : Int) (lg : Bool) (hno : lg = true ∨ (lg = false ∧ 100 < note.size) ∨ (lg = false ∧ note.size ≤ 100 ∧ (x != 0) = true) ∨ (lg = false ∧ note.size ≤ 100 ∧ (x != 0) = false ∧ (y != 0) = true))
    (HK : Hid (∀ W, Below w.heap.size w W → Calls Tryz.prog 12 #[] W fun e w' => e = .returned (.bool true) ∧ Below W.heap.size W w'))
    (HL : Hid (∀ W, Below w.heap.size w W → Calls Tryz.prog 16 #[.agg #[.string (sb f.name), .int .i64 f.deadline, .int .i64 f.priority, .slice A f.tasks.length c]] W fun e w' => e = .returned (.bool lg) ∧ Below W.heap.size W w'))
    (HP : Hid (∀ W, Below w.heap.size w W → Calls Tryz.prog 17 #[.agg #[.string (sb f.name), .int .i64 f.deadline, .int .i64 f.priority, .slice A f.tasks.length c]] W fun e w' => e = .returned (.tuple #[.string S, .int .i64 x]) ∧ Below W.heap.size W w'))
    (HW : Hid (∀ W, Below w.heap.size w W → Calls Tryz.prog 31 #[.string note] W fun e w' => (∃ v, e = .returned (.tuple #[v, .int .i64 y])) ∧ Below W.heap.size W w')) :
    Calls Tryz.prog 9 #[.agg #[.string (sb f.name), .int .i64 f.deadline, .int .i64 f.priority, .slice A f.tasks.length c], .string note] w fun e w' => e = .returned (.bool true) ∧ Below w.heap.size w w' := by
  rcases hno with rfl | ⟨rfl, h1⟩ | ⟨rfl, h1, h2⟩ | ⟨rfl, h1, h2, h3⟩
  all_goals
    go_enter Tryz.func9, Tryz.ntmps9
    go_wp2_with fail
    refine (HP.out _ (al _ _)).mono ?_
    rintro e w1 ⟨rfl, hb1⟩
    have HB1 := Lib.hid (blw (al w (flowO f A c)) hb1)
    have HO1 : Hid (w1.heap[w.heap.size]? = some (flowO f A c)) := Lib.hid ((hb1.block _ (by simp)).trans (heap_alloc_new w _))
    clear hb1
    generalize eF : w.heap.size = fb at HO1 ⊢
    go_wp2_with fail
    refine (HW.out _ HB1.out).mono ?_
    rintro e w2 ⟨⟨v, rfl⟩, hb2⟩
    have HB2 := Lib.hid (blw HB1.out hb2)
    have HO2 := Lib.hid (keep_obj hb2 HO1.out)
    clear hb2 HO1 HB1
    obtain ⟨p0, p1, p2, p3, hp⟩ := flowO_cells HO2.out
    go_wp2_with fail
    refine (HL.out _ HB2.out).mono ?_
    rintro e w3 ⟨rfl, hb3⟩
    have HB3 := Lib.hid (blw HB2.out hb3)
    clear hb3 p0 p1 p2 p3 hp HB2 HO2
    go_wp2_with fail
    refine (HK.out _ HB3.out).mono ?_
    rintro e w4 ⟨rfl, hb4⟩
    go_wp2
    go_ret
    exact ⟨rfl, blw HB3.out hb4⟩

set_option maxHeartbeats 6400000 in
theorem spaces_yes (w : World) (f : FlowD) (A : Option Addr) (c : Nat) (m S : List UInt8) (q n : Nat) (hq : m.length = q) (hn : S.length = n) (hq1 : q ≤ 100) (hn1 : n ≤ 26000)
    (H : Hid (∀ W, Below w.heap.size w W → Tasks W A c f.tasks))
    (HK : Hid (∀ W, Below w.heap.size w W → Calls Tryz.prog 12 #[] W fun e w' => e = .returned (.bool true) ∧ Below W.heap.size W w'))
    (HL : Hid (∀ W, Below w.heap.size w W → Calls Tryz.prog 16 #[.agg #[.string (sb f.name), .int .i64 f.deadline, .int .i64 f.priority, .slice A f.tasks.length c]] W fun e w' => e = .returned (.bool false) ∧ Below W.heap.size W w'))
    (HP : Hid (∀ W, Below w.heap.size w W → Calls Tryz.prog 17 #[.agg #[.string (sb f.name), .int .i64 f.deadline, .int .i64 f.priority, .slice A f.tasks.length c]] W fun e w' => e = .returned (.tuple #[.string (sb S), .int .i64 0]) ∧ Below W.heap.size W w'))
    (HW : Hid (∀ W, Below w.heap.size w W → Calls Tryz.prog 31 #[.string (sb m)] W fun e w' => (∃ v, e = .returned (.tuple #[v, .int .i64 0])) ∧ Below W.heap.size W w'))
    (HQ : Hid (∀ W, Below w.heap.size w W → Calls Tryz.prog 13 #[.string (sb (sofar m S n))] W fun e w' => Below W.heap.size W w' ∧ ∃ A c, e = .returned (.tuple #[.agg #[.string (sb f.name), .int .i64 f.deadline, .int .i64 f.priority, .slice A f.tasks.length c], .int .i64 0, .int .i64 0]) ∧ Tasks w' A c f.tasks))
    (HS : Hid (∀ W B d, Below w.heap.size w W → Tasks W B d f.tasks → Calls Tryz.prog 15 #[.agg #[.string (sb f.name), .int .i64 f.deadline, .int .i64 f.priority, .slice B f.tasks.length d], .agg #[.string (sb f.name), .int .i64 f.deadline, .int .i64 f.priority, .slice A f.tasks.length c]] W fun e w' => e = .returned (.bool true) ∧ Below W.heap.size W w')) :
    Calls Tryz.prog 9 #[.agg #[.string (sb f.name), .int .i64 f.deadline, .int .i64 f.priority, .slice A f.tasks.length c], .string (sb m)] w fun e w' => e = .returned (.bool true) ∧ Below w.heap.size w w' := by
  have hzm : (sb m).size = q := by rw [sb_size, hq]
  have hzs : (sb S).size = n := by rw [sb_size, hn]
  have HQL := Lib.hid hq; have HNL := Lib.hid hn
  clear hq hn
  go_enter Tryz.func9, Tryz.ntmps9
  go_wp2_with fail
  refine (HP.out _ (al _ _)).mono ?_
  rintro e w1 ⟨rfl, hb1⟩
  have HB1 := Lib.hid (blw (al w (flowO f A c)) hb1)
  have HO1 : Hid (w1.heap[w.heap.size]? = some (flowO f A c)) := Lib.hid ((hb1.block _ (by simp)).trans (heap_alloc_new w _))
  clear hb1
  generalize eF : w.heap.size = fb at HO1 ⊢
  go_wp2_with fail
  refine (HW.out _ HB1.out).mono ?_
  rintro e w2 ⟨⟨v, rfl⟩, hb2⟩
  have HB2 := Lib.hid (blw HB1.out hb2)
  have HO2 := Lib.hid (keep_obj hb2 HO1.out)
  clear hb2 HO1 HB1
  obtain ⟨p0, p1, p2, p3, hp⟩ := flowO_cells HO2.out
  go_wp2_with fail
  refine (HL.out _ HB2.out).mono ?_
  rintro e w3 ⟨rfl, hb3⟩
  have HB3 := Lib.hid (blw HB2.out hb3)
  have HO3 := Lib.hid (keep_obj hb3 HO2.out)
  clear hb3 p0 p1 p2 p3 hp HB2 HO2
  go_wp2_with fail
  go_loopw [9, 10] (fun tt i wr => ∃ k : Nat, k ≤ n ∧ i = .int .i64 k ∧ tt = .string (sb (sofar m S k)) ∧ Hid (Below w3.heap.size w3 wr)) (fun _ i _ => n - (intOf i).toNat)
  case atStart => exact ⟨0, Nat.zero_le _, rfl, congrArg Value.string (sofar_zero m S), Lib.hid (Below.refl _ _)⟩
  case round =>
    obtain ⟨k, hk, rfl, rfl, HB⟩ := hrel
    by_cases hlt : k < n
    · obtain ⟨b, hb⟩ : ∃ b, S[k]? = some b := ⟨_, List.getElem?_eq_getElem (by rw [HNL.out]; exact hlt)⟩
      have hst := sofar_step (m := m) hb
      have hex := ext_one hb
      have hTz : (sb (sofar m S k)).size ≤ 2800000 := by rw [sb_size]; exact sofar_len m S k (by rw [HQL.out]; omega) (by rw [HNL.out]; omega)
      obtain ⟨T, hT⟩ : ∃ T, sofar m S k = T := ⟨_, rfl⟩
      rw [hT] at hst hTz ⊢
      have hlt2 : k < (sb S).size := by rw [hzs]; exact hlt
      have hbk : (sb S)[k] = b := (show (sb S)[k] = S[k] from rfl).trans (List.getElem?_eq_some_iff.1 hb).2
      have HST := Lib.hid hst
      have hb8 := UInt8.toNat_lt b
      clear hb hT hst
      by_cases e32 : b = 32
      · have g32 : ((b.toNat : Int) == 32) = true := by rw [e32]; rfl
        have HE := Lib.hid e32
        clear e32 hex
        go_wp2_with fail
        go_roundw
        case rel => exact ⟨k + 1, by omega, by go_num, congrArg Value.string (by rw [HST.out, HE.out, ← sb_cat]; rfl), HB⟩
        case measure => simp [intOf]; omega
      have g32 : ((b.toNat : Int) == 32) = false := by
        rw [beq_eq_false_iff_ne]; intro e
        exact e32 (UInt8.toNat_inj.1 (by show b.toNat = 32; omega))
      by_cases e10 : b = 10
      · have g10 : ((b.toNat : Int) == 10) = true := by rw [e10]; rfl
        have HE := Lib.hid e10
        clear e32 e10 hex
        go_wp2_with fail
        go_roundw
        case rel => exact ⟨k + 1, by omega, by go_num, congrArg Value.string (by rw [HST.out, HE.out]; exact spB_ten T m), HB⟩
        case measure => simp [intOf]; omega
      · have g10 : ((b.toNat : Int) == 10) = false := by
          rw [beq_eq_false_iff_ne]; intro e
          exact e10 (UInt8.toNat_inj.1 (by show b.toNat = 10; omega))
        have HE := Lib.hid (show spB m b = [b] from by unfold spB; rw [if_neg e32, if_neg e10])
        have HEX := Lib.hid hex
        have hez : ((sb S).extract k (k + 1)).size = 1 := by rw [hex]; rfl
        clear e32 e10 hex
        go_wp2_with fail
        go_roundw
        case rel => exact ⟨k + 1, by omega, by go_num, congrArg Value.string (by rw [HST.out, HE.out, ← sb_cat, HEX.out]), HB⟩
        case measure => simp [intOf]; omega
    · obtain rfl : k = n := by omega
      have HB4 := Lib.hid (blw HB3.out HB.out)
      have HO4 := Lib.hid (keep_obj HB.out HO3.out)
      clear HB HB3 HO3 hlt
      go_wp2_with fail
      refine (HQ.out _ HB4.out).mono ?_
      rintro e w5 ⟨hb5, A5, c5, rfl, hT5⟩
      have HB5 := Lib.hid (blw HB4.out hb5)
      have HO5 := Lib.hid (keep_obj hb5 HO4.out)
      have HT5 := Lib.hid hT5
      clear hb5 hT5 HB4 HO4
      obtain ⟨p0, p1, p2, p3, hp⟩ := flowO_cells HO5.out
      go_wp2_with fail
      refine (HS.out _ A5 c5 (blw HB5.out (al _ _)) (HT5.out.below (al _ _))).mono ?_
      rintro e w6 ⟨rfl, hb6⟩
      have HB6 := Lib.hid (blw (blw HB5.out (al _ _)) hb6)
      clear hb6 p0 p1 p2 p3 hp
      go_wp2_with fail
      refine (HK.out _ HB6.out).mono ?_
      rintro e w7 ⟨rfl, hb7⟩
      go_wp2
      go_ret
      exact ⟨rfl, blw HB6.out hb7⟩

set_option maxHeartbeats 3200000 in
theorem walk_FlowSpaces (w : World) (hT : Tb3 w) (f : FlowD) (A : Option Addr) (c : Nat) (h : Tasks w A c f.tasks) (hs : f.name.length ≤ 1048576 ∧ ∀ t ∈ f.tasks, t.name.length ≤ 1048576 ∧ t.after.length ≤ 1048576) (s : ByteArray) (hss : s.size ≤ maxLen) (hsb : s.size ≤ 1048576) :
    Calls Tryz.prog 9 #[.agg #[.string (sb f.name), .int .i64 f.deadline, .int .i64 f.priority, .slice A f.tasks.length c], .string s] w fun e w' => e = .returned (.bool true) ∧ Below w.heap.size w w' := by
  obtain ⟨m, rfl⟩ : ∃ m, s = sb m := ⟨s.data.toList, (sb_data s).symm⟩
  have hmz : m.length ≤ 1048576 := by rwa [sb_size] at hsb
  have hsm : Small f := ⟨Nat.le_trans hs.1 (by decide), fun t ht => ⟨Nat.le_trans (hs.2 t ht).1 (by decide), Nat.le_trans (hs.2 t ht).2 (by decide)⟩⟩
  have hk := fun W (hW : Below w.heap.size w W) => known_any W (hT.below hW)
  have hl := fun W (hW : Below w.heap.size w W) => long_any f A c W (h.below hW) hsm
  have hP := fun W (hW : Below w.heap.size w W) => print_all f A c W (h.below hW) (hT.below hW) (Nat.le_trans hs.1 (by decide)) fun t ht => Nat.le_trans (hs.2 t ht).1 (by decide)
  have hw : ∀ W, Below w.heap.size w W → Calls Tryz.prog 31 #[.string (sb m)] W fun e w' => (∃ v, e = .returned (.tuple #[v, .int .i64 (wordsE m)])) ∧ Below W.heap.size W w' := by
    intro W _
    refine (Txt.rwords_big (sb m) W (by omega)).mono ?_
    rintro e w' ⟨⟨A', c', zs, he, _⟩, hb⟩
    rw [show Txt.lst (sb m) = m from sb_list m] at he
    exact ⟨⟨_, he⟩, hb⟩
  cases hlong : longD f
  · rw [hlong] at hl
    by_cases hmn : m.length ≤ 100
    · by_cases hx : checkE f = 0
      · by_cases hy : wordsE m = 0
        · rw [if_pos hx, hx] at hP
          rw [hy] at hw
          obtain ⟨hb, hbl⟩ := wide_back hx hlong hy hmn
          have hQ : ∀ W, Below w.heap.size w W → Calls Tryz.prog 13 #[.string (sb (sofar m (printL f) (printL f).length))] W fun e w' => Below W.heap.size W w' ∧ ∃ A c, e = .returned (.tuple #[.agg #[.string (sb f.name), .int .i64 f.deadline, .int .i64 f.priority, .slice A f.tasks.length c], .int .i64 0, .int .i64 0]) ∧ Tasks w' A c f.tasks := by
            intro W hW
            have e : sofar m (printL f) (printL f).length = wideL m f := by unfold sofar wideL; rw [List.take_length]
            rw [e]
            have := parse_all (wideL m f) W (Nat.le_trans hbl (by decide)) (hT.below hW)
            rw [hb] at this
            exact this
          have hS := fun W B d (hW : Below w.heap.size w W) (b : Tasks W B d f.tasks) => rsame_flow f f W B A d c b (h.below hW)
          rw [eqv_yes rfl] at hS
          exact spaces_yes w f A c m (printL f) _ _ rfl rfl hmn (print_len2 hx hlong) (Lib.hid fun W hW => h.below hW) (Lib.hid hk) (Lib.hid hl) (Lib.hid hP) (Lib.hid hw) (Lib.hid hQ) (Lib.hid hS)
        · exact spaces_no w f A c (sb m) _ _ _ false (Or.inr (Or.inr (Or.inr ⟨rfl, by rw [sb_size]; exact hmn, by simp [hx], by simp [hy]⟩))) (Lib.hid hk) (Lib.hid hl) (Lib.hid hP) (Lib.hid hw)
      · exact spaces_no w f A c (sb m) _ _ _ false (Or.inr (Or.inr (Or.inl ⟨rfl, by rw [sb_size]; exact hmn, by simp [hx]⟩))) (Lib.hid hk) (Lib.hid hl) (Lib.hid hP) (Lib.hid hw)
    · exact spaces_no w f A c (sb m) _ _ _ false (Or.inr (Or.inl ⟨rfl, by rw [sb_size]; omega⟩)) (Lib.hid hk) (Lib.hid hl) (Lib.hid hP) (Lib.hid hw)
  · rw [hlong] at hl
    exact spaces_no w f A c (sb m) _ _ _ true (Or.inl rfl) (Lib.hid hk) (Lib.hid hl) (Lib.hid hP) (Lib.hid hw)

namespace flowSpaces
theorem own : ownKnob Tryz.prog.godebug = none := by kernel_rfl
theorem laidOut : laidOutB Tryz.prog = true := by kernel_rfl
theorem reads (os : Os) {H : Type} (enc : TypeId × Value → H) : ∃ places, DataW.whole enc Tryz.prog ((World.laidAll Tryz.prog os laid7).forCall (fun _ _ => 0) ⟨#[], #[.agg #[.string ByteArray.empty, .int .i64 0, .int .i64 0, .slice none 0 0], .string ByteArray.empty], []⟩).memory Tryz.f9.params.toList Rows.flowSpacesSpec.vars false #[.agg #[.string ByteArray.empty, .int .i64 0, .int .i64 0, .slice none 0 0], .string ByteArray.empty].toList 8 = some ([.agg [.lit (.string []), .lit (.int .i64 0), .lit (.int .i64 0), .nil], .lit (.string [])], [], places) :=
  ⟨[], by kernel_rfl⟩
set_option maxRecDepth 100000 in
theorem lifted (os : Os) (started : os.Started) (H : Type) (enc : TypeId × Value → H) (F : Stop.Interp) :
    ReturnsInHanded {} Tryz.checked os 9 .any ((Rows.OpenSpec.upto Rows.flowSpacesSpec).preRow enc Tryz.prog Tryz.f9 Rows.flowSpacesUptoRow.domain false Rows.flowSpacesUptoRow.laid) (((Rows.OpenSpec.upto Rows.flowSpacesSpec).at F).post enc Tryz.prog Tryz.f9 false true false false) := by
  obtain ⟨places, hx⟩ := reads os enc
  have hok : Input.okWideB Tryz.checked.prog ((World.laidAll Tryz.prog os laid7).forCall (fun _ _ => 0) ⟨#[], #[.agg #[.string ByteArray.empty, .int .i64 0, .int .i64 0, .slice none 0 0], .string ByteArray.empty], []⟩) 9 ⟨#[], #[.agg #[.string ByteArray.empty, .int .i64 0, .int .i64 0, .slice none 0 0], .string ByteArray.empty], []⟩ = true := by kernel_rfl
  have hlaid : laidMetH Tryz.prog laid7 ((World.laidAll Tryz.prog os laid7).forCall (fun _ _ => 0) ⟨#[], #[.agg #[.string ByteArray.empty, .int .i64 0, .int .i64 0, .slice none 0 0], .string ByteArray.empty], []⟩).memory := by rw [MakeChecks.laidMetH_plain _ _ _ (by kernel_rfl)]; exact laidMet_laidAll _ (by kernel_rfl) (by kernel_rfl)
  refine returnsInHanded_of_row (C := Tryz.checked) (s := Rows.OpenSpec.upto Rows.flowSpacesSpec) own started (by kernel_rfl) Tryz.func9
    ⟨World.laidAll Tryz.prog os laid7, fun _ _ => 0, ⟨#[], #[.agg #[.string ByteArray.empty, .int .i64 0, .int .i64 0, .slice none 0 0], .string ByteArray.empty], []⟩, World.laidAll_os _ _ _, World.shaped_of_ZipB (by kernel_rfl) (by kernel_rfl), (Input.okWide_of_okWideB (base := 0) hok).1, (Input.okWide_of_okWideB hok).2,
      OpenSpec.preRow_of_cond 8 hx (by kernel_rfl) (fun k hk => by cases hk; kernel_rfl) (by kernel_rfl) hlaid, by
      simp only [Assume.holds]
      exact ⟨by simp, by simp, fun _ => Modest.zero, by simp, by simp⟩⟩ ?_
  intro W base args ds gs before hval0 hW _ hcond _ hL _ _
  clear hlaid hok hx
  have hval : ∀ (j : Nat) t v, Tryz.f9.params[j]? = some t → args[j]? = some v → Value.okWide Tryz.prog W .any base t v := hval0
  have hW' := hW
  obtain ⟨p, q, hA0, hV, rfl, _, _⟩ := hW
  have hA : DataW.TrodAll enc Tryz.prog W 0 (fun _ => true) true Tryz.f9.params.toList args.toList ds p := hA0
  rw [Tryz.params9] at hA hval
  obtain ⟨v0, vs0, d0, ds0, p0, q0, hargs, rfl, rfl, h0, r0⟩ := trodAll_cons hA
  obtain ⟨v1, vs1, d1, ds1, p1, q1, rfl, rfl, rfl, h1, r1⟩ := trodAll_cons r0
  obtain ⟨rfl, rfl, rfl⟩ := trodAll_nil r1
  obtain rfl : args = #[v0, v1] := by cases args; simp_all
  obtain ⟨rfl, rfl⟩ := trodVars_none hV
  have hk := of_decide_eq_true (hcond _ rfl)
  simp only [List.append_nil, Rows.uptoBulkAll] at hk
  have k0 := h0
  have lt0 : ∀ x ∈ p0, x.block < W.heap.size := by obtain ⟨m, hm⟩ := k0; exact DataW.trod_lt m _ _ _ hm
  obtain ⟨cs0, e0, _⟩ := okWide_struct Tryz.underlying25 (hval 0 25 v0 rfl rfl)
  obtain ⟨fuel0, hf0⟩ := h0
  rw [show v0.cells.toList = cs0.toList from by rw [e0]; rfl] at hf0
  obtain ⟨z0, A0, c0, hcs0, w0, s0⟩ := flow_argU hf0
  obtain rfl : cs0 = #[.string (sb z0.name), .int .i64 z0.deadline, .int .i64 z0.priority, .slice A0 z0.tasks.length c0] := by rw [← Array.toArray_toList (xs := cs0), hcs0]
  subst e0
  have s0 := s0 1048576 (by show Rows.uptoBulk d0 ≤ 1048576; omega)
  clear hf0 hcs0
  obtain ⟨a1, rfl, rfl, rfl, w1⟩ := open_string Tryz.underlying9 (hval 1 9 v1 rfl rfl) h1
  clear hA0 hval0
  rw [MakeChecks.laidMetH_plain _ _ _ (by kernel_rfl)] at hL
  refine (walk_FlowSpaces W (tabs_of hL) z0 A0 c0 w0 s0 a1 w1 (by simp only [Rows.uptoBulk] at hk; have : a1.data.toList.length = a1.size := Array.length_toList; omega)).mono fun e W' ⟨he, bel⟩ => ?_
  subst he
  exact ⟨_, rfl, _, _, _, [], _, [], hW', trodAll_mk1 (shut_bool Tryz.underlying4 _), (trodAll_cons_mk (Below.trod laidOut (by kernel_rfl) (of_decide_eq_true (by kernel_rfl)) k0 bel lt0) (trodAll_cons_mk (shut_string Tryz.underlying9 w1) trodAll_mk0)), rfl, bel.frame _, fun h => by cases h⟩
theorem said : Rows.FlowSpacesUptoSaid :=
  OpenClaim.holds_of_cond 9 Tryz.f9 rfl rfl rfl rfl rfl rfl rfl ⟨rfl, rfl, rfl, rfl, rfl⟩ rfl rfl rfl rfl rfl (by kernel_rfl) Tryz.func9 (by kernel_rfl)
    (of_decide_eq_true (by kernel_rfl)) (by unfold Func.isWrapper; first | (rw [if_pos (by decide +kernel)]; kernel_rfl) | (rw [if_neg (by decide +kernel)]; exact ⟨rfl, rfl⟩))
    (fun os started H enc _ F => by rw [OpenClaim.pre_eq_preRow]; exact lifted os started H enc F)
theorem plain (f : FuncId) (fn : Func) (hf : Tryz.pinned.checked.prog.funcNamed "timekeeper/timekeeperlaw06.FlowSpaces" = some f) (hfn : Tryz.pinned.checked.prog.funcs[f]? = some fn) :
    false = Tryz.pinned.checked.prog.looks [] ∧ ∀ (j : Nat) t, fn.params[j]? = some t → Tryz.pinned.checked.prog.wantsStandIn t = false := by
  obtain rfl : f = 9 := Option.some.inj ((show Tryz.prog.funcNamed "timekeeper/timekeeperlaw06.FlowSpaces" = some 9 by kernel_rfl).symm.trans hf) |>.symm
  obtain rfl : fn = Tryz.f9 := (Option.some.inj (Tryz.func9.symm.trans hfn)).symm
  refine ⟨by kernel_rfl, fun j t ht => ?_⟩
  rw [Tryz.params9] at ht
  have hm : t ∈ [25, 9] := by simpa using Array.mem_of_getElem? ht
  have hall : ([25, 9].all fun u => !Tryz.prog.wantsStandIn u) = true := by kernel_rfl
  exact (show Tryz.prog.wantsStandIn t = false by simpa using List.all_eq_true.1 hall t hm)
theorem proved : Rows.FlowSpacesUptoCardSaid :=
  Claim7.holds_tied_plain_at .later [] _ _ _ _ said (fun _ h => by cases h) (by kernel_rfl) (fun _ h => by cases h) flowSpacesUpto_row_tie rfl ⟨rfl, rfl⟩ (by kernel_rfl) rfl plain (by kernel_rfl)
#print axioms proved
end flowSpaces
end Go.Proofs.YtdcfakbelnpljaaGreatDoor
