/- TextRunes: for any two strings the law returns true, and both read afterwards as before. The library's tables are as the card ties them. -/
import Derived.Test.YtejmofekbeaoeaaDoorRows
import Derived.Test.YtejmofekbeaoeaaDoorCards
import Derived.Test.YtejmofekbeaoeaaDoorTie
import Derived.Test.YtejmofekbeaoeaaDoorTxtKnown
import Derived.Test.YtejmofekbeaoeaaDoorTxtTabs
import Derived.WalkKit
import Derived.ProofKit
import Derived.OpenShut
import Derived.ShutString
import Derived.ChangeOld
import Derived.Below
import Derived.SevenTiedAt
namespace Go.Proofs.YtejmofekbeaoeaaDoor
open Go.ChangeShapes Go.WideShapes Go.ChangeAt Go.RowKit Go.Lib
open Go.ChangeMaps (open_string shut_string)
set_option linter.unusedVariables false

theorem lst_app (a b : ByteArray) : lst (a ++ b) = lst a ++ lst b := by simp [lst]
theorem app_size (a b : ByteArray) : (a ++ b).size = a.size + b.size := by simp

set_option maxHeartbeats 1600000 in
theorem tr_000 (w : World) (HT : Hid (Tabs w)) (a b : ByteArray) (ha : a.size ≤ 2000) (hb : b.size ≤ 2000) (na nb : Nat) (l : List Int) (hna : na ≤ 2000) (hnb : nb ≤ 2000)
    (c1 : ∀ w1, Calls Tryd.prog 16 #[.string a] w1 fun e w' => (∃ A c, e = .returned (.tuple #[.slice A na c, .bool false]) ∧ Ints w' A l) ∧ Below w1.heap.size w1 w')
    (c5 : ∀ w1, Tabs w1 → Calls Tryd.prog 17 #[.string a] w1 fun e w' => e = .returned (.bool false) ∧ Below w1.heap.size w1 w') :
    Calls Tryd.prog 9 #[.string a, .string b] w fun e w' => e = .returned (.bool true) ∧ Below w.heap.size w w' := by
  go_enter Tryd.func9, Tryd.ntmps9
  go_wp2_with fail
  refine (c1 _).mono ?_
  rintro e w1 ⟨⟨A, c, rfl, -⟩, hb1⟩
  go_wp2_with fail
  refine (c5 _ (HT.out.below hb1)).mono ?_
  rintro e w2 ⟨rfl, hb2⟩
  have hc2 := blw hb1 hb2
  go_wp2_with fail
  refine (known_any _ (HT.out.below hc2)).mono ?_
  rintro e w3 ⟨rfl, hb3⟩
  go_wp2_with fail
  go_ret
  exact ⟨rfl, blw hc2 hb3⟩

set_option maxHeartbeats 1600000 in
theorem tr_010 (w : World) (HT : Hid (Tabs w)) (a b : ByteArray) (ha : a.size ≤ 2000) (hb : b.size ≤ 2000) (na nb : Nat) (l : List Int) (hna : na ≤ 2000) (hnb : nb ≤ 2000)
    (c1 : ∀ w1, Calls Tryd.prog 16 #[.string a] w1 fun e w' => (∃ A c, e = .returned (.tuple #[.slice A na c, .bool false]) ∧ Ints w' A l) ∧ Below w1.heap.size w1 w')
    (c3 : ∀ w1, Calls Tryd.prog 19 #[.string a] w1 fun e w' => e = .returned (.int .i64 (na : Int)) ∧ Below w1.heap.size w1 w')
    (c5 : ∀ w1, Tabs w1 → Calls Tryd.prog 17 #[.string a] w1 fun e w' => e = .returned (.bool true) ∧ Below w1.heap.size w1 w')
    (c6 : ∀ w1, Tabs w1 → Calls Tryd.prog 17 #[.string (a ++ ⟨#[122]⟩)] w1 fun e w' => e = .returned (.bool false) ∧ Below w1.heap.size w1 w') (h40 : ¬ na < 40) :
    Calls Tryd.prog 9 #[.string a, .string b] w fun e w' => e = .returned (.bool true) ∧ Below w.heap.size w w' := by
  have d40 : decide ((na : Int) < 40) = false := decide_eq_false (by omega)
  go_enter Tryd.func9, Tryd.ntmps9
  go_wp2_with fail
  refine (c1 _).mono ?_
  rintro e w1 ⟨⟨A, c, rfl, -⟩, hb1⟩
  go_wp2_with fail
  refine (c5 _ (HT.out.below hb1)).mono ?_
  rintro e w2 ⟨rfl, hb2⟩
  have hc2 := blw hb1 hb2
  go_wp2_with fail
  refine (c6 _ (HT.out.below hc2)).mono ?_
  rintro e w3 ⟨rfl, hb3⟩
  have hc3 := blw hc2 hb3
  go_wp2_with fail
  refine (c3 _).mono ?_
  rintro e w4 ⟨rfl, hb4⟩
  have hc4 := blw hc3 hb4
  go_wp2_with fail
  refine (known_any _ (HT.out.below hc4)).mono ?_
  rintro e w5 ⟨rfl, hb5⟩
  go_wp2_with fail
  go_ret
  exact ⟨rfl, blw hc4 hb5⟩

set_option maxHeartbeats 1600000 in
theorem tr_011 (w : World) (HT : Hid (Tabs w)) (a b : ByteArray) (ha : a.size ≤ 2000) (hb : b.size ≤ 2000) (na nb : Nat) (l : List Int) (hna : na ≤ 2000) (hnb : nb ≤ 2000)
    (c1 : ∀ w1, Calls Tryd.prog 16 #[.string a] w1 fun e w' => (∃ A c, e = .returned (.tuple #[.slice A na c, .bool false]) ∧ Ints w' A l) ∧ Below w1.heap.size w1 w')
    (c3 : ∀ w1, Calls Tryd.prog 19 #[.string a] w1 fun e w' => e = .returned (.int .i64 (na : Int)) ∧ Below w1.heap.size w1 w')
    (c5 : ∀ w1, Tabs w1 → Calls Tryd.prog 17 #[.string a] w1 fun e w' => e = .returned (.bool true) ∧ Below w1.heap.size w1 w')
    (c6 : ∀ w1, Tabs w1 → Calls Tryd.prog 17 #[.string (a ++ ⟨#[122]⟩)] w1 fun e w' => e = .returned (.bool true) ∧ Below w1.heap.size w1 w') (h40 : na < 40) :
    Calls Tryd.prog 9 #[.string a, .string b] w fun e w' => e = .returned (.bool true) ∧ Below w.heap.size w w' := by
  have d40 : decide ((na : Int) < 40) = true := decide_eq_true (by omega)
  go_enter Tryd.func9, Tryd.ntmps9
  go_wp2_with fail
  refine (c1 _).mono ?_
  rintro e w1 ⟨⟨A, c, rfl, -⟩, hb1⟩
  go_wp2_with fail
  refine (c5 _ (HT.out.below hb1)).mono ?_
  rintro e w2 ⟨rfl, hb2⟩
  have hc2 := blw hb1 hb2
  go_wp2_with fail
  refine (c6 _ (HT.out.below hc2)).mono ?_
  rintro e w3 ⟨rfl, hb3⟩
  have hc3 := blw hc2 hb3
  go_wp2_with fail
  refine (c3 _).mono ?_
  rintro e w4 ⟨rfl, hb4⟩
  have hc4 := blw hc3 hb4
  go_wp2_with fail
  refine (known_any _ (HT.out.below hc4)).mono ?_
  rintro e w5 ⟨rfl, hb5⟩
  go_wp2_with fail
  go_ret
  exact ⟨rfl, blw hc4 hb5⟩

set_option maxHeartbeats 1600000 in
theorem tr_100 (w : World) (HT : Hid (Tabs w)) (a b : ByteArray) (ha : a.size ≤ 2000) (hb : b.size ≤ 2000) (na nb : Nat) (l : List Int) (hna : na ≤ 2000) (hnb : nb ≤ 2000)
    (c1 : ∀ w1, Calls Tryd.prog 16 #[.string a] w1 fun e w' => (∃ A c, e = .returned (.tuple #[.slice A na c, .bool true]) ∧ Ints w' A l) ∧ Below w1.heap.size w1 w')
    (c2 : ∀ w1, Calls Tryd.prog 19 #[.string (a ++ b)] w1 fun e w' => e = .returned (.int .i64 ((na : Int) + (nb : Int))) ∧ Below w1.heap.size w1 w')
    (c4 : ∀ w1, Calls Tryd.prog 19 #[.string b] w1 fun e w' => e = .returned (.int .i64 (nb : Int)) ∧ Below w1.heap.size w1 w')
    (c3 : ∀ w1, Calls Tryd.prog 19 #[.string a] w1 fun e w' => e = .returned (.int .i64 (na : Int)) ∧ Below w1.heap.size w1 w')
    (c5 : ∀ w1, Tabs w1 → Calls Tryd.prog 17 #[.string a] w1 fun e w' => e = .returned (.bool false) ∧ Below w1.heap.size w1 w') :
    Calls Tryd.prog 9 #[.string a, .string b] w fun e w' => e = .returned (.bool true) ∧ Below w.heap.size w w' := by
  go_enter Tryd.func9, Tryd.ntmps9
  go_wp2_with fail
  refine (c1 _).mono ?_
  rintro e w1 ⟨⟨A, c, rfl, -⟩, hb1⟩
  go_wp2_with fail
  refine (c2 _).mono ?_
  rintro e w2 ⟨rfl, hb2⟩
  have hc2 := blw hb1 hb2
  go_wp2_with fail
  refine (c3 _).mono ?_
  rintro e w3 ⟨rfl, hb3⟩
  have hc3 := blw hc2 hb3
  go_wp2_with fail
  refine (c4 _).mono ?_
  rintro e w4 ⟨rfl, hb4⟩
  have hc4 := blw hc3 hb4
  go_wp2_with fail
  refine (c5 _ (HT.out.below hc4)).mono ?_
  rintro e w5 ⟨rfl, hb5⟩
  have hc5 := blw hc4 hb5
  go_wp2_with fail
  refine (known_any _ (HT.out.below hc5)).mono ?_
  rintro e w6 ⟨rfl, hb6⟩
  go_wp2_with fail
  go_ret
  exact ⟨rfl, blw hc5 hb6⟩

set_option maxHeartbeats 1600000 in
theorem tr_110 (w : World) (HT : Hid (Tabs w)) (a b : ByteArray) (ha : a.size ≤ 2000) (hb : b.size ≤ 2000) (na nb : Nat) (l : List Int) (hna : na ≤ 2000) (hnb : nb ≤ 2000)
    (c1 : ∀ w1, Calls Tryd.prog 16 #[.string a] w1 fun e w' => (∃ A c, e = .returned (.tuple #[.slice A na c, .bool true]) ∧ Ints w' A l) ∧ Below w1.heap.size w1 w')
    (c2 : ∀ w1, Calls Tryd.prog 19 #[.string (a ++ b)] w1 fun e w' => e = .returned (.int .i64 ((na : Int) + (nb : Int))) ∧ Below w1.heap.size w1 w')
    (c4 : ∀ w1, Calls Tryd.prog 19 #[.string b] w1 fun e w' => e = .returned (.int .i64 (nb : Int)) ∧ Below w1.heap.size w1 w')
    (c3 : ∀ w1, Calls Tryd.prog 19 #[.string a] w1 fun e w' => e = .returned (.int .i64 (na : Int)) ∧ Below w1.heap.size w1 w')
    (c5 : ∀ w1, Tabs w1 → Calls Tryd.prog 17 #[.string a] w1 fun e w' => e = .returned (.bool true) ∧ Below w1.heap.size w1 w')
    (c6 : ∀ w1, Tabs w1 → Calls Tryd.prog 17 #[.string (a ++ ⟨#[122]⟩)] w1 fun e w' => e = .returned (.bool false) ∧ Below w1.heap.size w1 w') (h40 : ¬ na < 40) :
    Calls Tryd.prog 9 #[.string a, .string b] w fun e w' => e = .returned (.bool true) ∧ Below w.heap.size w w' := by
  have d40 : decide ((na : Int) < 40) = false := decide_eq_false (by omega)
  go_enter Tryd.func9, Tryd.ntmps9
  go_wp2_with fail
  refine (c1 _).mono ?_
  rintro e w1 ⟨⟨A, c, rfl, -⟩, hb1⟩
  go_wp2_with fail
  refine (c2 _).mono ?_
  rintro e w2 ⟨rfl, hb2⟩
  have hc2 := blw hb1 hb2
  go_wp2_with fail
  refine (c3 _).mono ?_
  rintro e w3 ⟨rfl, hb3⟩
  have hc3 := blw hc2 hb3
  go_wp2_with fail
  refine (c4 _).mono ?_
  rintro e w4 ⟨rfl, hb4⟩
  have hc4 := blw hc3 hb4
  go_wp2_with fail
  refine (c5 _ (HT.out.below hc4)).mono ?_
  rintro e w5 ⟨rfl, hb5⟩
  have hc5 := blw hc4 hb5
  go_wp2_with fail
  refine (c6 _ (HT.out.below hc5)).mono ?_
  rintro e w6 ⟨rfl, hb6⟩
  have hc6 := blw hc5 hb6
  go_wp2_with fail
  refine (c3 _).mono ?_
  rintro e w7 ⟨rfl, hb7⟩
  have hc7 := blw hc6 hb7
  go_wp2_with fail
  refine (known_any _ (HT.out.below hc7)).mono ?_
  rintro e w8 ⟨rfl, hb8⟩
  go_wp2_with fail
  go_ret
  exact ⟨rfl, blw hc7 hb8⟩

set_option maxHeartbeats 1600000 in
theorem tr_111 (w : World) (HT : Hid (Tabs w)) (a b : ByteArray) (ha : a.size ≤ 2000) (hb : b.size ≤ 2000) (na nb : Nat) (l : List Int) (hna : na ≤ 2000) (hnb : nb ≤ 2000)
    (c1 : ∀ w1, Calls Tryd.prog 16 #[.string a] w1 fun e w' => (∃ A c, e = .returned (.tuple #[.slice A na c, .bool true]) ∧ Ints w' A l) ∧ Below w1.heap.size w1 w')
    (c2 : ∀ w1, Calls Tryd.prog 19 #[.string (a ++ b)] w1 fun e w' => e = .returned (.int .i64 ((na : Int) + (nb : Int))) ∧ Below w1.heap.size w1 w')
    (c4 : ∀ w1, Calls Tryd.prog 19 #[.string b] w1 fun e w' => e = .returned (.int .i64 (nb : Int)) ∧ Below w1.heap.size w1 w')
    (c3 : ∀ w1, Calls Tryd.prog 19 #[.string a] w1 fun e w' => e = .returned (.int .i64 (na : Int)) ∧ Below w1.heap.size w1 w')
    (c5 : ∀ w1, Tabs w1 → Calls Tryd.prog 17 #[.string a] w1 fun e w' => e = .returned (.bool true) ∧ Below w1.heap.size w1 w')
    (c6 : ∀ w1, Tabs w1 → Calls Tryd.prog 17 #[.string (a ++ ⟨#[122]⟩)] w1 fun e w' => e = .returned (.bool true) ∧ Below w1.heap.size w1 w') (h40 : na < 40) :
    Calls Tryd.prog 9 #[.string a, .string b] w fun e w' => e = .returned (.bool true) ∧ Below w.heap.size w w' := by
  have d40 : decide ((na : Int) < 40) = true := decide_eq_true (by omega)
  go_enter Tryd.func9, Tryd.ntmps9
  go_wp2_with fail
  refine (c1 _).mono ?_
  rintro e w1 ⟨⟨A, c, rfl, -⟩, hb1⟩
  go_wp2_with fail
  refine (c2 _).mono ?_
  rintro e w2 ⟨rfl, hb2⟩
  have hc2 := blw hb1 hb2
  go_wp2_with fail
  refine (c3 _).mono ?_
  rintro e w3 ⟨rfl, hb3⟩
  have hc3 := blw hc2 hb3
  go_wp2_with fail
  refine (c4 _).mono ?_
  rintro e w4 ⟨rfl, hb4⟩
  have hc4 := blw hc3 hb4
  go_wp2_with fail
  refine (c5 _ (HT.out.below hc4)).mono ?_
  rintro e w5 ⟨rfl, hb5⟩
  have hc5 := blw hc4 hb5
  go_wp2_with fail
  refine (c6 _ (HT.out.below hc5)).mono ?_
  rintro e w6 ⟨rfl, hb6⟩
  have hc6 := blw hc5 hb6
  go_wp2_with fail
  refine (c3 _).mono ?_
  rintro e w7 ⟨rfl, hb7⟩
  have hc7 := blw hc6 hb7
  go_wp2_with fail
  refine (known_any _ (HT.out.below hc7)).mono ?_
  rintro e w8 ⟨rfl, hb8⟩
  go_wp2_with fail
  go_ret
  exact ⟨rfl, blw hc7 hb8⟩

set_option maxHeartbeats 1600000 in
theorem walk_TextRunes (w : World) (hT : Tabs w) (a : ByteArray) (ha : a.size ≤ maxLen) (b : ByteArray) (hb : b.size ≤ maxLen) :
    Calls Tryd.prog 9 #[.string a, .string b] w fun e w' => e = .returned (.bool true) ∧ Below w.heap.size w w' := by
  have HT := Lib.hid hT; clear hT
  unfold maxLen at ha hb
  by_cases hla : 2000 < a.size
  · go_enter Tryd.func9, Tryd.ntmps9
    go_wp2_with fail
    refine (known_any _ HT.out).mono ?_
    rintro e w1 ⟨rfl, hb1⟩
    go_wp2_with fail
    go_ret
    exact ⟨rfl, hb1⟩
  by_cases hlb : 2000 < b.size
  · go_enter Tryd.func9, Tryd.ntmps9
    go_wp2_with fail
    refine (known_any _ HT.out).mono ?_
    rintro e w1 ⟨rfl, hb1⟩
    go_wp2_with fail
    go_ret
    exact ⟨rfl, hb1⟩
  have hna : (dec (lst a)).length ≤ 2000 := Nat.le_trans (dec_len _ _ (Nat.le_refl _)) (by rw [lst_len]; omega)
  have hnb : (dec (lst b)).length ≤ 2000 := Nat.le_trans (dec_len _ _ (Nat.le_refl _)) (by rw [lst_len]; omega)
  have c1 := fun w1 => all_any a w1 (by omega)
  have c2 := fun w1 => runes_any (a ++ b) w1 (by rw [app_size]; omega)
  have c3 := fun w1 => runes_any a w1 (by omega)
  have c4 := fun w1 => runes_any b w1 (by omega)
  have c5 := fun w1 (h : Tabs w1) => name_any a w1 (by omega) h
  have c6 := fun w1 (h : Tabs w1) => name_any (a ++ ⟨#[122]⟩) w1 (by rw [app_size]; show a.size + 1 ≤ _; omega) h
  have hD : validD (lst a) = true → (dec (lst (a ++ b))).length = (dec (lst a)).length + (dec (lst b)).length := fun h => by rw [lst_app, dec_app _ _ _ (Nat.le_refl _) h, List.length_append]
  have hZ : nameD (lst a) = true → nameD (lst (a ++ ⟨#[122]⟩)) = decide ((dec (lst a)).length < 40) := fun h => by rw [lst_app]; exact name_z h
  cases hn : nameD (lst a) <;> simp only [hn] at c5
  · cases hv : validD (lst a) <;> simp only [hv] at c1
    · exact tr_000 w HT a b (by omega) (by omega) _ 0 _ hna (by omega) c1 c5
    · simp only [hD hv, Int.natCast_add] at c2
      exact tr_100 w HT a b (by omega) (by omega) _ _ _ hna hnb c1 c2 c4 c3 c5
  · simp only [hZ hn] at c6
    by_cases h40 : (dec (lst a)).length < 40
    · simp only [decide_eq_true h40] at c6
      cases hv : validD (lst a) <;> simp only [hv] at c1
      · exact tr_011 w HT a b (by omega) (by omega) _ 0 _ hna (by omega) c1 c3 c5 c6 h40
      · simp only [hD hv, Int.natCast_add] at c2
        exact tr_111 w HT a b (by omega) (by omega) _ _ _ hna hnb c1 c2 c4 c3 c5 c6 h40
    · simp only [decide_eq_false h40] at c6
      cases hv : validD (lst a) <;> simp only [hv] at c1
      · exact tr_010 w HT a b (by omega) (by omega) _ 0 _ hna (by omega) c1 c3 c5 c6 h40
      · simp only [hD hv, Int.natCast_add] at c2
        exact tr_110 w HT a b (by omega) (by omega) _ _ _ hna hnb c1 c2 c4 c3 c5 c6 h40

namespace textRunes
theorem own : ownKnob Tryd.prog.godebug = none := by kernel_rfl
set_option maxRecDepth 100000 in
theorem lifted (os : Os) (started : os.Started) (H : Type) (enc : TypeId × Value → H) :
    ReturnsInHanded {} Tryd.checked os 9 .any (fun w args => (Rows.textRunesSpec.pre enc Tryd.prog Tryd.f9 [] false w args ∧ laidMetH Tryd.prog laid5 w) ∧ sizedMet enc Tryd.prog Tryd.f9 (OpenSpec.ofChange Rows.textRunesSpec) false w args)
      (Rows.textRunesSpec.post enc Tryd.prog Tryd.f9 false true false false) := by
  refine returnsInHanded_of_change_and (C := Tryd.checked) (X := fun w _ => laidMetH Tryd.prog laid5 w) (fun _ _ _ hh h => h.of_heap hh) own started (by kernel_rfl) Tryd.func9
    (ChangeSpec.witness_shaped (enc := enc) (C := Tryd.checked) (os := os) (X := fun w _ => laidMetH Tryd.prog laid5 w) false (World.laidAll Tryd.prog os laid5) #[.string ByteArray.empty, .string ByteArray.empty] 8 (World.laidAll_os _ _ _)
      (World.shaped_of_ZipB (by kernel_rfl) (by kernel_rfl)) (by kernel_rfl) (by kernel_rfl) (by kernel_rfl)
      (by rw [MakeChecks.laidMetH_plain _ _ _ (by kernel_rfl)]; exact laidMet_laidAll _ (by kernel_rfl) (by kernel_rfl))) ?_
  intro W base args ds gs before hval0 hW _ _ hL _
  have hval : ∀ (j : Nat) t v, Tryd.f9.params[j]? = some t → args[j]? = some v → Value.okWide Tryd.prog W .any base t v := hval0
  have hW' := hW
  obtain ⟨p, q, hA0, hV, rfl, _, _⟩ := hW
  have hA : DataW.TrodAll enc Tryd.prog W 0 (fun _ => true) true Tryd.f9.params.toList args.toList ds p := hA0
  rw [Tryd.params9] at hA hval
  obtain ⟨v0, vs0, d0, ds0, p0, q0, hargs, rfl, rfl, h0, r0⟩ := trodAll_cons hA
  obtain ⟨v1, vs1, d1, ds1, p1, q1, rfl, rfl, rfl, h1, r1⟩ := trodAll_cons r0
  obtain ⟨rfl, rfl, rfl⟩ := trodAll_nil r1
  obtain rfl : args = #[v0, v1] := by cases args; simp_all
  obtain ⟨rfl, rfl⟩ := trodVars_none hV
  obtain ⟨a0, rfl, rfl, rfl, w0⟩ := open_string Tryd.underlying9 (hval 0 9 v0 rfl rfl) h0
  obtain ⟨a1, rfl, rfl, rfl, w1⟩ := open_string Tryd.underlying9 (hval 1 9 v1 rfl rfl) h1
  clear hA0 hval0
  simp only [List.append_nil] at hW'
  rw [MakeChecks.laidMetH_plain _ _ _ (by kernel_rfl)] at hL
  refine (walk_TextRunes W (tabs_of hL) a0 w0 a1 w1).mono fun e W' ⟨he, bel⟩ => ?_
  subst he
  exact ⟨_, rfl, _, _, _, [], _, [], hW', trodAll_mk1 (shut_bool Tryd.underlying4 _), (trodAll_cons_mk (shut_string Tryd.underlying9 w0) (trodAll_cons_mk (shut_string Tryd.underlying9 w1) trodAll_mk0)), rfl, bel.frame _, fun h => by cases h⟩
theorem said : Rows.TextRunesSaid :=
  OpenClaim.holds_of_wide 9 Tryd.f9 rfl rfl rfl rfl rfl rfl rfl ⟨rfl, rfl, rfl, rfl, rfl⟩ rfl rfl rfl rfl rfl (by kernel_rfl) Tryd.func9 (by kernel_rfl)
    (of_decide_eq_true (by kernel_rfl)) (by unfold Func.isWrapper; first | (rw [if_pos (by decide +kernel)]; kernel_rfl) | (rw [if_neg (by decide +kernel)]; exact ⟨rfl, rfl⟩))
    (fun os started H enc _ => lifted os started H enc)
theorem plain (f : FuncId) (fn : Func) (hf : Tryd.pinned.checked.prog.funcNamed "timekeeper/timekeeperlaw02.TextRunes" = some f) (hfn : Tryd.pinned.checked.prog.funcs[f]? = some fn) :
    false = Tryd.pinned.checked.prog.looks [] ∧ ∀ (j : Nat) t, fn.params[j]? = some t → Tryd.pinned.checked.prog.wantsStandIn t = false := by
  obtain rfl : f = 9 := Option.some.inj ((show Tryd.prog.funcNamed "timekeeper/timekeeperlaw02.TextRunes" = some 9 by kernel_rfl).symm.trans hf) |>.symm
  obtain rfl : fn = Tryd.f9 := (Option.some.inj (Tryd.func9.symm.trans hfn)).symm
  refine ⟨by kernel_rfl, fun j t ht => ?_⟩
  rw [Tryd.params9] at ht
  have hm : t ∈ [9, 9] := by simpa using Array.mem_of_getElem? ht
  have hall : ([9, 9].all fun u => !Tryd.prog.wantsStandIn u) = true := by kernel_rfl
  exact (show Tryd.prog.wantsStandIn t = false by simpa using List.all_eq_true.1 hall t hm)
theorem proved : Rows.TextRunesCardSaid :=
  Claim7.holds_tied_plain_at .later [] _ _ _ _ said (fun _ h => by cases h) (by kernel_rfl) (fun _ h => by cases h) textRunes_row_tie rfl ⟨rfl, rfl⟩ (by kernel_rfl) rfl plain (by kernel_rfl)
#print axioms proved
end textRunes
end Go.Proofs.YtejmofekbeaoeaaDoor
