/- FlowSame: for any two workflows the law returns true, and all read afterwards as before. The library's and the program's tables are as the card ties them. -/
import Derived.Test.YtdcfakbelnpljaaGreatDoorRows
import Derived.Test.YtdcfakbelnpljaaGreatDoorCards
import Derived.Test.YtdcfakbelnpljaaGreatDoorTie
import Derived.Test.YtdcfakbelnpljaaGreatDoorFlwRSame
import Derived.Test.YtdcfakbelnpljaaGreatDoorFlwBk3
import Derived.Test.YtdcfakbelnpljaaGreatDoorFlwTabs
import Derived.WalkKit
import Derived.ProofKit
import Derived.OpenShut
import Derived.ShutString
import Derived.ChangeOld
import Derived.Below
import Derived.SevenTiedAt
namespace Go.Proofs.YtdcfakbelnpljaaGreatDoor
open Go.ChangeShapes Go.WideShapes Go.ChangeAt Go.RowKit Go.Lib
open Go.ChangeMaps (open_string shut_string)
set_option linter.unusedVariables false
set_option maxRecDepth 100000

theorem eqv_comm {α : Type} (a b : α) : eqv b a = eqv a b := by
  by_cases h : a = b
  · subst h; rfl
  · rw [eqv_no h, eqv_no fun e => h e.symm]
def textOf (f : FlowD) : List UInt8 := if checkE f = 0 then printL f else []
theorem same_text (f g : FlowD) (hf : longD f = false) : checkE f ≠ 0 ∨ (checkE f = 0 ∧ checkE g ≠ 0) ∨ (checkE f = 0 ∧ checkE g = 0 ∧ ((sb (textOf f)).toList == (sb (textOf g)).toList) = eqv f g) := by
  by_cases h1 : checkE f = 0
  · by_cases h2 : checkE g = 0
    · refine Or.inr (Or.inr ⟨h1, h2, ?_⟩)
      by_cases h3 : f = g
      · subst h3; rw [eqv_yes rfl]; simp
      · rw [eqv_no h3, beq_eq_false_iff_ne, sb_toList, sb_toList]
        unfold textOf
        rw [if_pos h1, if_pos h2]
        exact fun e => h3 (print_inj h1 h2 (print_len h1 hf) e)
    · exact Or.inr (Or.inl ⟨h1, h2⟩)
  · exact Or.inl h1

set_option maxHeartbeats 3200000 in
theorem same_core (w : World) (f g : FlowD) (A B : Option Addr) (c d : Nat) (x y : Int) (S T : ByteArray) (r : Bool)
    (HK : Hid (∀ W, Below w.heap.size w W → Calls Tryz.prog 12 #[] W fun e w' => e = .returned (.bool true) ∧ Below W.heap.size W w'))
    (HL1 : Hid (∀ W, Below w.heap.size w W → Calls Tryz.prog 16 #[.agg #[.string (sb f.name), .int .i64 f.deadline, .int .i64 f.priority, .slice A f.tasks.length c]] W fun e w' => e = .returned (.bool false) ∧ Below W.heap.size W w'))
    (HL2 : Hid (∀ W, Below w.heap.size w W → Calls Tryz.prog 16 #[.agg #[.string (sb g.name), .int .i64 g.deadline, .int .i64 g.priority, .slice B g.tasks.length d]] W fun e w' => e = .returned (.bool false) ∧ Below W.heap.size W w'))
    (HS1 : Hid (∀ W, Below w.heap.size w W → Calls Tryz.prog 30 #[.agg #[.string (sb f.name), .int .i64 f.deadline, .int .i64 f.priority, .slice A f.tasks.length c], .agg #[.string (sb g.name), .int .i64 g.deadline, .int .i64 g.priority, .slice B g.tasks.length d]] W fun e w' => e = .returned (.bool r) ∧ Below W.heap.size W w'))
    (HS2 : Hid (∀ W, Below w.heap.size w W → Calls Tryz.prog 30 #[.agg #[.string (sb g.name), .int .i64 g.deadline, .int .i64 g.priority, .slice B g.tasks.length d], .agg #[.string (sb f.name), .int .i64 f.deadline, .int .i64 f.priority, .slice A f.tasks.length c]] W fun e w' => e = .returned (.bool r) ∧ Below W.heap.size W w'))
    (HS3 : Hid (∀ W, Below w.heap.size w W → Calls Tryz.prog 15 #[.agg #[.string (sb f.name), .int .i64 f.deadline, .int .i64 f.priority, .slice A f.tasks.length c], .agg #[.string (sb g.name), .int .i64 g.deadline, .int .i64 g.priority, .slice B g.tasks.length d]] W fun e w' => e = .returned (.bool r) ∧ Below W.heap.size W w'))
    (HP1 : Hid (∀ W, Below w.heap.size w W → Calls Tryz.prog 17 #[.agg #[.string (sb f.name), .int .i64 f.deadline, .int .i64 f.priority, .slice A f.tasks.length c]] W fun e w' => e = .returned (.tuple #[.string S, .int .i64 x]) ∧ Below W.heap.size W w'))
    (HP2 : Hid (∀ W, Below w.heap.size w W → Calls Tryz.prog 17 #[.agg #[.string (sb g.name), .int .i64 g.deadline, .int .i64 g.priority, .slice B g.tasks.length d]] W fun e w' => e = .returned (.tuple #[.string T, .int .i64 y]) ∧ Below W.heap.size W w'))
    (hc : x ≠ 0 ∨ (x = 0 ∧ y ≠ 0) ∨ (x = 0 ∧ y = 0 ∧ (S.toList == T.toList) = r)) :
    Calls Tryz.prog 8 #[.agg #[.string (sb f.name), .int .i64 f.deadline, .int .i64 f.priority, .slice A f.tasks.length c], .agg #[.string (sb g.name), .int .i64 g.deadline, .int .i64 g.priority, .slice B g.tasks.length d]] w fun e w' => e = .returned (.bool true) ∧ Below w.heap.size w w' := by
  rcases hc with hx | ⟨hx, hy⟩ | ⟨hx, hy, hst⟩
  · have hx1 : (x != 0) = true := by simp [hx]
    clear hx
    go_enter Tryz.func8, Tryz.ntmps8
    go_wp2_with fail
    refine (HL1.out _ (blw (al _ _) (al _ _))).mono ?_
    rintro e w1 ⟨rfl, hb1⟩
    have HB1 := Lib.hid (blw (blw (al w (flowO f A c)) (al _ (flowO g B d))) hb1)
    have HO1 : Hid (w1.heap[w.heap.size]? = some (flowO f A c)) := Lib.hid ((hb1.block _ (by simp; omega)).trans (((al (w.alloc (flowO f A c)) _).block _ (by simp)).trans (heap_alloc_new w _)))
    have HG1 : Hid (w1.heap[w.heap.size + 1]? = some (flowO g B d)) := Lib.hid ((hb1.block _ (by simp)).trans (alloc_at (W := w.alloc (flowO f A c)) (by simp)))
    clear hb1
    obtain ⟨p0, p1, p2, p3, hp⟩ := flowO_cells HO1.out
    obtain ⟨q0, q1, q2, q3, hq⟩ := flowO_cells HG1.out
    go_wp2_with fail
    refine (HL2.out _ HB1.out).mono ?_
    rintro e w2 ⟨rfl, hb2⟩
    have HB2 := Lib.hid (blw HB1.out hb2)
    have HO2 := Lib.hid (keep_obj hb2 HO1.out)
    have HG2 := Lib.hid (keep_obj hb2 HG1.out)
    clear hb2 p0 p1 p2 p3 hp q0 q1 q2 q3 hq
    obtain ⟨p0, p1, p2, p3, hp⟩ := flowO_cells HO2.out
    obtain ⟨q0, q1, q2, q3, hq⟩ := flowO_cells HG2.out
    go_wp2_with fail
    refine (HS1.out _ HB2.out).mono ?_
    rintro e w3 ⟨rfl, hb3⟩
    have HB3 := Lib.hid (blw HB2.out hb3)
    have HO3 := Lib.hid (keep_obj hb3 HO2.out)
    have HG3 := Lib.hid (keep_obj hb3 HG2.out)
    clear hb3 p0 p1 p2 p3 hp q0 q1 q2 q3 hq
    obtain ⟨p0, p1, p2, p3, hp⟩ := flowO_cells HO3.out
    obtain ⟨q0, q1, q2, q3, hq⟩ := flowO_cells HG3.out
    go_wp2_with fail
    refine (HP1.out _ HB3.out).mono ?_
    rintro e w4 ⟨rfl, hb4⟩
    have HB4 := Lib.hid (blw HB3.out hb4)
    have HO4 := Lib.hid (keep_obj hb4 HO3.out)
    have HG4 := Lib.hid (keep_obj hb4 HG3.out)
    clear hb4 p0 p1 p2 p3 hp q0 q1 q2 q3 hq
    obtain ⟨p0, p1, p2, p3, hp⟩ := flowO_cells HO4.out
    obtain ⟨q0, q1, q2, q3, hq⟩ := flowO_cells HG4.out
    go_wp2_with fail
    refine (HP2.out _ HB4.out).mono ?_
    rintro e w5 ⟨rfl, hb5⟩
    have HB5 := Lib.hid (blw HB4.out hb5)
    have HO5 := Lib.hid (keep_obj hb5 HO4.out)
    have HG5 := Lib.hid (keep_obj hb5 HG4.out)
    clear hb5 p0 p1 p2 p3 hp q0 q1 q2 q3 hq
    obtain ⟨p0, p1, p2, p3, hp⟩ := flowO_cells HO5.out
    obtain ⟨q0, q1, q2, q3, hq⟩ := flowO_cells HG5.out
    go_wp2_with fail
    refine (HS3.out _ HB5.out).mono ?_
    rintro e w6 ⟨rfl, hb6⟩
    have HB6 := Lib.hid (blw HB5.out hb6)
    have HO6 := Lib.hid (keep_obj hb6 HO5.out)
    have HG6 := Lib.hid (keep_obj hb6 HG5.out)
    clear hb6 p0 p1 p2 p3 hp q0 q1 q2 q3 hq
    obtain ⟨p0, p1, p2, p3, hp⟩ := flowO_cells HO6.out
    obtain ⟨q0, q1, q2, q3, hq⟩ := flowO_cells HG6.out
    go_wp2_with fail
    refine (HS2.out _ HB6.out).mono ?_
    rintro e w7 ⟨rfl, hb7⟩
    have HB7 := Lib.hid (blw HB6.out hb7)
    have HO7 := Lib.hid (keep_obj hb7 HO6.out)
    have HG7 := Lib.hid (keep_obj hb7 HG6.out)
    clear hb7 p0 p1 p2 p3 hp q0 q1 q2 q3 hq
    obtain ⟨p0, p1, p2, p3, hp⟩ := flowO_cells HO7.out
    obtain ⟨q0, q1, q2, q3, hq⟩ := flowO_cells HG7.out
    go_wp2_with fail
    refine (HK.out _ HB7.out).mono ?_
    rintro e w9 ⟨rfl, hb9⟩
    go_wp2
    go_ret
    exact ⟨rfl, blw HB7.out hb9⟩
  · have hx1 : (x != 0) = false := by simp [hx]
    have hy1 : (y != 0) = true := by simp [hy]
    clear hx hy
    go_enter Tryz.func8, Tryz.ntmps8
    go_wp2_with fail
    refine (HL1.out _ (blw (al _ _) (al _ _))).mono ?_
    rintro e w1 ⟨rfl, hb1⟩
    have HB1 := Lib.hid (blw (blw (al w (flowO f A c)) (al _ (flowO g B d))) hb1)
    have HO1 : Hid (w1.heap[w.heap.size]? = some (flowO f A c)) := Lib.hid ((hb1.block _ (by simp; omega)).trans (((al (w.alloc (flowO f A c)) _).block _ (by simp)).trans (heap_alloc_new w _)))
    have HG1 : Hid (w1.heap[w.heap.size + 1]? = some (flowO g B d)) := Lib.hid ((hb1.block _ (by simp)).trans (alloc_at (W := w.alloc (flowO f A c)) (by simp)))
    clear hb1
    obtain ⟨p0, p1, p2, p3, hp⟩ := flowO_cells HO1.out
    obtain ⟨q0, q1, q2, q3, hq⟩ := flowO_cells HG1.out
    go_wp2_with fail
    refine (HL2.out _ HB1.out).mono ?_
    rintro e w2 ⟨rfl, hb2⟩
    have HB2 := Lib.hid (blw HB1.out hb2)
    have HO2 := Lib.hid (keep_obj hb2 HO1.out)
    have HG2 := Lib.hid (keep_obj hb2 HG1.out)
    clear hb2 p0 p1 p2 p3 hp q0 q1 q2 q3 hq
    obtain ⟨p0, p1, p2, p3, hp⟩ := flowO_cells HO2.out
    obtain ⟨q0, q1, q2, q3, hq⟩ := flowO_cells HG2.out
    go_wp2_with fail
    refine (HS1.out _ HB2.out).mono ?_
    rintro e w3 ⟨rfl, hb3⟩
    have HB3 := Lib.hid (blw HB2.out hb3)
    have HO3 := Lib.hid (keep_obj hb3 HO2.out)
    have HG3 := Lib.hid (keep_obj hb3 HG2.out)
    clear hb3 p0 p1 p2 p3 hp q0 q1 q2 q3 hq
    obtain ⟨p0, p1, p2, p3, hp⟩ := flowO_cells HO3.out
    obtain ⟨q0, q1, q2, q3, hq⟩ := flowO_cells HG3.out
    go_wp2_with fail
    refine (HP1.out _ HB3.out).mono ?_
    rintro e w4 ⟨rfl, hb4⟩
    have HB4 := Lib.hid (blw HB3.out hb4)
    have HO4 := Lib.hid (keep_obj hb4 HO3.out)
    have HG4 := Lib.hid (keep_obj hb4 HG3.out)
    clear hb4 p0 p1 p2 p3 hp q0 q1 q2 q3 hq
    obtain ⟨p0, p1, p2, p3, hp⟩ := flowO_cells HO4.out
    obtain ⟨q0, q1, q2, q3, hq⟩ := flowO_cells HG4.out
    go_wp2_with fail
    refine (HP2.out _ HB4.out).mono ?_
    rintro e w5 ⟨rfl, hb5⟩
    have HB5 := Lib.hid (blw HB4.out hb5)
    have HO5 := Lib.hid (keep_obj hb5 HO4.out)
    have HG5 := Lib.hid (keep_obj hb5 HG4.out)
    clear hb5 p0 p1 p2 p3 hp q0 q1 q2 q3 hq
    obtain ⟨p0, p1, p2, p3, hp⟩ := flowO_cells HO5.out
    obtain ⟨q0, q1, q2, q3, hq⟩ := flowO_cells HG5.out
    go_wp2_with fail
    refine (HS3.out _ HB5.out).mono ?_
    rintro e w6 ⟨rfl, hb6⟩
    have HB6 := Lib.hid (blw HB5.out hb6)
    have HO6 := Lib.hid (keep_obj hb6 HO5.out)
    have HG6 := Lib.hid (keep_obj hb6 HG5.out)
    clear hb6 p0 p1 p2 p3 hp q0 q1 q2 q3 hq
    obtain ⟨p0, p1, p2, p3, hp⟩ := flowO_cells HO6.out
    obtain ⟨q0, q1, q2, q3, hq⟩ := flowO_cells HG6.out
    go_wp2_with fail
    refine (HS2.out _ HB6.out).mono ?_
    rintro e w7 ⟨rfl, hb7⟩
    have HB7 := Lib.hid (blw HB6.out hb7)
    have HO7 := Lib.hid (keep_obj hb7 HO6.out)
    have HG7 := Lib.hid (keep_obj hb7 HG6.out)
    clear hb7 p0 p1 p2 p3 hp q0 q1 q2 q3 hq
    obtain ⟨p0, p1, p2, p3, hp⟩ := flowO_cells HO7.out
    obtain ⟨q0, q1, q2, q3, hq⟩ := flowO_cells HG7.out
    go_wp2_with fail
    refine (HK.out _ HB7.out).mono ?_
    rintro e w9 ⟨rfl, hb9⟩
    go_wp2
    go_ret
    exact ⟨rfl, blw HB7.out hb9⟩
  · have hx1 : (x != 0) = false := by simp [hx]
    have hy1 : (y != 0) = false := by simp [hy]
    clear hx hy
    go_enter Tryz.func8, Tryz.ntmps8
    go_wp2_with fail
    refine (HL1.out _ (blw (al _ _) (al _ _))).mono ?_
    rintro e w1 ⟨rfl, hb1⟩
    have HB1 := Lib.hid (blw (blw (al w (flowO f A c)) (al _ (flowO g B d))) hb1)
    have HO1 : Hid (w1.heap[w.heap.size]? = some (flowO f A c)) := Lib.hid ((hb1.block _ (by simp; omega)).trans (((al (w.alloc (flowO f A c)) _).block _ (by simp)).trans (heap_alloc_new w _)))
    have HG1 : Hid (w1.heap[w.heap.size + 1]? = some (flowO g B d)) := Lib.hid ((hb1.block _ (by simp)).trans (alloc_at (W := w.alloc (flowO f A c)) (by simp)))
    clear hb1
    obtain ⟨p0, p1, p2, p3, hp⟩ := flowO_cells HO1.out
    obtain ⟨q0, q1, q2, q3, hq⟩ := flowO_cells HG1.out
    go_wp2_with fail
    refine (HL2.out _ HB1.out).mono ?_
    rintro e w2 ⟨rfl, hb2⟩
    have HB2 := Lib.hid (blw HB1.out hb2)
    have HO2 := Lib.hid (keep_obj hb2 HO1.out)
    have HG2 := Lib.hid (keep_obj hb2 HG1.out)
    clear hb2 p0 p1 p2 p3 hp q0 q1 q2 q3 hq
    obtain ⟨p0, p1, p2, p3, hp⟩ := flowO_cells HO2.out
    obtain ⟨q0, q1, q2, q3, hq⟩ := flowO_cells HG2.out
    go_wp2_with fail
    refine (HS1.out _ HB2.out).mono ?_
    rintro e w3 ⟨rfl, hb3⟩
    have HB3 := Lib.hid (blw HB2.out hb3)
    have HO3 := Lib.hid (keep_obj hb3 HO2.out)
    have HG3 := Lib.hid (keep_obj hb3 HG2.out)
    clear hb3 p0 p1 p2 p3 hp q0 q1 q2 q3 hq
    obtain ⟨p0, p1, p2, p3, hp⟩ := flowO_cells HO3.out
    obtain ⟨q0, q1, q2, q3, hq⟩ := flowO_cells HG3.out
    go_wp2_with fail
    refine (HP1.out _ HB3.out).mono ?_
    rintro e w4 ⟨rfl, hb4⟩
    have HB4 := Lib.hid (blw HB3.out hb4)
    have HO4 := Lib.hid (keep_obj hb4 HO3.out)
    have HG4 := Lib.hid (keep_obj hb4 HG3.out)
    clear hb4 p0 p1 p2 p3 hp q0 q1 q2 q3 hq
    obtain ⟨p0, p1, p2, p3, hp⟩ := flowO_cells HO4.out
    obtain ⟨q0, q1, q2, q3, hq⟩ := flowO_cells HG4.out
    go_wp2_with fail
    refine (HP2.out _ HB4.out).mono ?_
    rintro e w5 ⟨rfl, hb5⟩
    have HB5 := Lib.hid (blw HB4.out hb5)
    have HO5 := Lib.hid (keep_obj hb5 HO4.out)
    have HG5 := Lib.hid (keep_obj hb5 HG4.out)
    clear hb5 p0 p1 p2 p3 hp q0 q1 q2 q3 hq
    obtain ⟨p0, p1, p2, p3, hp⟩ := flowO_cells HO5.out
    obtain ⟨q0, q1, q2, q3, hq⟩ := flowO_cells HG5.out
    go_wp2_with fail
    refine (HS3.out _ HB5.out).mono ?_
    rintro e w6 ⟨rfl, hb6⟩
    have HB6 := Lib.hid (blw HB5.out hb6)
    have HO6 := Lib.hid (keep_obj hb6 HO5.out)
    have HG6 := Lib.hid (keep_obj hb6 HG5.out)
    clear hb6 p0 p1 p2 p3 hp q0 q1 q2 q3 hq
    obtain ⟨p0, p1, p2, p3, hp⟩ := flowO_cells HO6.out
    obtain ⟨q0, q1, q2, q3, hq⟩ := flowO_cells HG6.out
    go_wp2_with fail
    refine (HS2.out _ HB6.out).mono ?_
    rintro e w7 ⟨rfl, hb7⟩
    have HB7 := Lib.hid (blw HB6.out hb7)
    have HO7 := Lib.hid (keep_obj hb7 HO6.out)
    have HG7 := Lib.hid (keep_obj hb7 HG6.out)
    clear hb7 p0 p1 p2 p3 hp q0 q1 q2 q3 hq
    obtain ⟨p0, p1, p2, p3, hp⟩ := flowO_cells HO7.out
    obtain ⟨q0, q1, q2, q3, hq⟩ := flowO_cells HG7.out
    go_wp2_with fail
    refine (HK.out _ HB7.out).mono ?_
    rintro e w9 ⟨rfl, hb9⟩
    go_wp2
    go_ret
    exact ⟨rfl, blw HB7.out hb9⟩

set_option maxHeartbeats 3200000 in
theorem walk_FlowSame (w : World) (hT : Tb3 w) (f : FlowD) (A : Option Addr) (c : Nat) (h : Tasks w A c f.tasks) (hs : Small f) (g : FlowD) (B : Option Addr) (d : Nat) (h2 : Tasks w B d g.tasks) (hs2 : Small g) :
    Calls Tryz.prog 8 #[.agg #[.string (sb f.name), .int .i64 f.deadline, .int .i64 f.priority, .slice A f.tasks.length c], .agg #[.string (sb g.name), .int .i64 g.deadline, .int .i64 g.priority, .slice B g.tasks.length d]] w fun e w' => e = .returned (.bool true) ∧ Below w.heap.size w w' := by
  have HK := Lib.hid fun W (hW : Below w.heap.size w W) => known_any W (hT.below hW)
  have hl1 := fun W (hW : Below w.heap.size w W) => long_any f A c W (h.below hW) hs
  have hl2 := fun W (hW : Below w.heap.size w W) => long_any g B d W (h2.below hW) hs2
  cases hlong : longD f
  · rw [hlong] at hl1
    cases hlong2 : longD g
    · rw [hlong2] at hl2
      obtain ⟨hn1, _⟩ := longD_no hlong
      obtain ⟨hn2, _⟩ := longD_no hlong2
      obtain ⟨hfn, htn⟩ := longD_names hlong
      obtain ⟨hgn, hun⟩ := longD_names hlong2
      exact same_core w f g A B c d (checkE f) (checkE g) (sb (textOf f)) (sb (textOf g)) (eqv f g) HK (Lib.hid hl1) (Lib.hid hl2)
        (Lib.hid fun W hW => same_flow f g W A B c d (h.below hW) (h2.below hW))
        (Lib.hid fun W hW => by rw [← eqv_comm]; exact same_flow g f W B A d c (h2.below hW) (h.below hW))
        (Lib.hid fun W hW => rsame_flow f g W A B c d (h.below hW) (h2.below hW))
        (Lib.hid fun W hW => print30 f A c W (h.below hW) (hT.below hW) (by omega) (fun t ht => by have := (htn t ht).1; omega) hn1)
        (Lib.hid fun W hW => print30 g B d W (h2.below hW) (hT.below hW) (by omega) (fun t ht => by have := (hun t ht).1; omega) hn2)
        (same_text f g hlong)
    · rw [hlong2] at hl2
      have HL1 := Lib.hid hl1; have HL2 := Lib.hid hl2
      clear hl1 hl2
      go_enter Tryz.func8, Tryz.ntmps8
      go_wp2_with fail
      refine (HL1.out _ (blw (al _ _) (al _ _))).mono ?_
      rintro e w1 ⟨rfl, hb1⟩
      have HB1 := Lib.hid (blw (blw (al w (flowO f A c)) (al _ (flowO g B d))) hb1)
      obtain ⟨q0, q1, q2, q3, hq⟩ := flowO_cells (b := w.heap.size + 1) (f := g) (A := B) (c := d) (w := w1) ((hb1.block _ (by simp)).trans (alloc_at (W := w.alloc (flowO f A c)) (by simp)))
      go_wp2_with fail
      refine (HL2.out _ HB1.out).mono ?_
      rintro e w2 ⟨rfl, hb2⟩
      have HB2 := Lib.hid (blw HB1.out hb2)
      go_wp2_with fail
      refine (HK.out _ HB2.out).mono ?_
      rintro e w3 ⟨rfl, hb3⟩
      go_wp2
      go_ret
      exact ⟨rfl, blw HB2.out hb3⟩
  · rw [hlong] at hl1
    have HL1 := Lib.hid hl1
    clear hl1 hl2
    go_enter Tryz.func8, Tryz.ntmps8
    go_wp2_with fail
    refine (HL1.out _ (blw (al _ _) (al _ _))).mono ?_
    rintro e w1 ⟨rfl, hb1⟩
    have HB1 := Lib.hid (blw (blw (al w (flowO f A c)) (al _ (flowO g B d))) hb1)
    go_wp2_with fail
    refine (HK.out _ HB1.out).mono ?_
    rintro e w2 ⟨rfl, hb2⟩
    go_wp2
    go_ret
    exact ⟨rfl, blw HB1.out hb2⟩

namespace flowSame
theorem own : ownKnob Tryz.prog.godebug = none := by kernel_rfl
theorem laidOut : laidOutB Tryz.prog = true := by kernel_rfl
set_option maxRecDepth 100000 in
theorem lifted (os : Os) (started : os.Started) (H : Type) (enc : TypeId × Value → H) :
    ReturnsInHanded {} Tryz.checked os 8 .any (fun w args => (Rows.flowSameSpec.pre enc Tryz.prog Tryz.f8 [] false w args ∧ laidMetH Tryz.prog laid7 w) ∧ sizedMet enc Tryz.prog Tryz.f8 (OpenSpec.ofChange Rows.flowSameSpec) false w args)
      (Rows.flowSameSpec.post enc Tryz.prog Tryz.f8 false true false false) := by
  refine returnsInHanded_of_change_and (C := Tryz.checked) (X := fun w _ => laidMetH Tryz.prog laid7 w) (fun _ _ _ hh h => h.of_heap hh) own started (by kernel_rfl) Tryz.func8
    (ChangeSpec.witness_shaped (enc := enc) (C := Tryz.checked) (os := os) (X := fun w _ => laidMetH Tryz.prog laid7 w) false (World.laidAll Tryz.prog os laid7) #[.agg #[.string ByteArray.empty, .int .i64 0, .int .i64 0, .slice none 0 0], .agg #[.string ByteArray.empty, .int .i64 0, .int .i64 0, .slice none 0 0]] 8 (World.laidAll_os _ _ _)
      (World.shaped_of_ZipB (by kernel_rfl) (by kernel_rfl)) (by kernel_rfl) (by kernel_rfl) (by kernel_rfl)
      (by rw [MakeChecks.laidMetH_plain _ _ _ (by kernel_rfl)]; exact laidMet_laidAll _ (by kernel_rfl) (by kernel_rfl))) ?_
  intro W base args ds gs before hval0 hW _ hsz hL _
  have hval : ∀ (j : Nat) t v, Tryz.f8.params[j]? = some t → args[j]? = some v → Value.okWide Tryz.prog W .any base t v := hval0
  have hW' := hW
  obtain ⟨p, q, hA0, hV, rfl, _, _⟩ := hW
  have hA : DataW.TrodAll enc Tryz.prog W 0 (fun _ => true) true Tryz.f8.params.toList args.toList ds p := hA0
  rw [Tryz.params8] at hA hval
  obtain ⟨v0, vs0, d0, ds0, p0, q0, hargs, rfl, rfl, h0, r0⟩ := trodAll_cons hA
  obtain ⟨v1, vs1, d1, ds1, p1, q1, rfl, rfl, rfl, h1, r1⟩ := trodAll_cons r0
  obtain ⟨rfl, rfl, rfl⟩ := trodAll_nil r1
  obtain rfl : args = #[v0, v1] := by cases args; simp_all
  obtain ⟨rfl, rfl⟩ := trodVars_none hV
  have k0 := h0
  have lt0 : ∀ x ∈ p0, x.block < W.heap.size := by obtain ⟨m, hm⟩ := k0; exact DataW.trod_lt m _ _ _ hm
  obtain ⟨cs0, e0, _⟩ := okWide_struct Tryz.underlying25 (hval 0 25 v0 rfl rfl)
  obtain ⟨fuel0, hf0⟩ := h0
  rw [show v0.cells.toList = cs0.toList from by rw [e0]; rfl] at hf0
  obtain ⟨z0, A0, c0, hcs0, w0, s0⟩ := flow_arg hf0
  obtain rfl : cs0 = #[.string (sb z0.name), .int .i64 z0.deadline, .int .i64 z0.priority, .slice A0 z0.tasks.length c0] := by rw [← Array.toArray_toList (xs := cs0), hcs0]
  subst e0
  have s0 := s0 (weights_at hsz (j := 0) (t := 25) rfl rfl)
  clear hf0 hcs0
  have k1 := h1
  have lt1 : ∀ x ∈ p1, x.block < W.heap.size := by obtain ⟨m, hm⟩ := k1; exact DataW.trod_lt m _ _ _ hm
  obtain ⟨cs1, e1, _⟩ := okWide_struct Tryz.underlying25 (hval 1 25 v1 rfl rfl)
  obtain ⟨fuel1, hf1⟩ := h1
  rw [show v1.cells.toList = cs1.toList from by rw [e1]; rfl] at hf1
  obtain ⟨z1, A1, c1, hcs1, w1, s1⟩ := flow_arg hf1
  obtain rfl : cs1 = #[.string (sb z1.name), .int .i64 z1.deadline, .int .i64 z1.priority, .slice A1 z1.tasks.length c1] := by rw [← Array.toArray_toList (xs := cs1), hcs1]
  subst e1
  have s1 := s1 (weights_at hsz (j := 1) (t := 25) rfl rfl)
  clear hf1 hcs1
  clear hA0 hval0
  rw [MakeChecks.laidMetH_plain _ _ _ (by kernel_rfl)] at hL
  refine (walk_FlowSame W (tabs_of hL) z0 A0 c0 w0 s0 z1 A1 c1 w1 s1).mono fun e W' ⟨he, bel⟩ => ?_
  subst he
  exact ⟨_, rfl, _, _, _, [], _, [], hW', trodAll_mk1 (shut_bool Tryz.underlying4 _), (trodAll_cons_mk (Below.trod laidOut (by kernel_rfl) (of_decide_eq_true (by kernel_rfl)) k0 bel lt0) (trodAll_cons_mk (Below.trod laidOut (by kernel_rfl) (of_decide_eq_true (by kernel_rfl)) k1 bel lt1) trodAll_mk0)), rfl, bel.frame _, fun h => by cases h⟩
theorem said : Rows.FlowSameSaid :=
  OpenClaim.holds_of_wide 8 Tryz.f8 rfl rfl rfl rfl rfl rfl rfl ⟨rfl, rfl, rfl, rfl, rfl⟩ rfl rfl rfl rfl rfl (by kernel_rfl) Tryz.func8 (by kernel_rfl)
    (of_decide_eq_true (by kernel_rfl)) (by unfold Func.isWrapper; first | (rw [if_pos (by decide +kernel)]; kernel_rfl) | (rw [if_neg (by decide +kernel)]; exact ⟨rfl, rfl⟩))
    (fun os started H enc _ => lifted os started H enc)
theorem plain (f : FuncId) (fn : Func) (hf : Tryz.pinned.checked.prog.funcNamed "timekeeper/timekeeperlaw06.FlowSame" = some f) (hfn : Tryz.pinned.checked.prog.funcs[f]? = some fn) :
    false = Tryz.pinned.checked.prog.looks [] ∧ ∀ (j : Nat) t, fn.params[j]? = some t → Tryz.pinned.checked.prog.wantsStandIn t = false := by
  obtain rfl : f = 8 := Option.some.inj ((show Tryz.prog.funcNamed "timekeeper/timekeeperlaw06.FlowSame" = some 8 by kernel_rfl).symm.trans hf) |>.symm
  obtain rfl : fn = Tryz.f8 := (Option.some.inj (Tryz.func8.symm.trans hfn)).symm
  refine ⟨by kernel_rfl, fun j t ht => ?_⟩
  rw [Tryz.params8] at ht
  have hm : t ∈ [25, 25] := by simpa using Array.mem_of_getElem? ht
  have hall : ([25, 25].all fun u => !Tryz.prog.wantsStandIn u) = true := by kernel_rfl
  exact (show Tryz.prog.wantsStandIn t = false by simpa using List.all_eq_true.1 hall t hm)
theorem proved : Rows.FlowSameCardSaid :=
  Claim7.holds_tied_plain_at .later [] _ _ _ _ said (fun _ h => by cases h) (by kernel_rfl) (fun _ h => by cases h) flowSame_row_tie rfl ⟨rfl, rfl⟩ (by kernel_rfl) rfl plain (by kernel_rfl)
#print axioms proved
end flowSame
end Go.Proofs.YtdcfakbelnpljaaGreatDoor
