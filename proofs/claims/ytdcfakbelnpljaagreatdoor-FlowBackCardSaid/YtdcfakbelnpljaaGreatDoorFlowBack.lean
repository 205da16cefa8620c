/- FlowBack: for any workflow and any text the law returns true, and all read afterwards as before. The library's and the program's tables are as the card ties them. -/
import Derived.Test.YtdcfakbelnpljaaGreatDoorRows
import Derived.Test.YtdcfakbelnpljaaGreatDoorCards
import Derived.Test.YtdcfakbelnpljaaGreatDoorTie
import Derived.Test.YtdcfakbelnpljaaGreatDoorFlwRSame
import Derived.Test.YtdcfakbelnpljaaGreatDoorFlwLen
import Derived.Test.YtdcfakbelnpljaaGreatDoorFlwTabs
import Derived.WalkKit
import Derived.ProofKit
import Derived.OpenShut
import Derived.ShutString
import Derived.ChangeOld
import Derived.Below
import Derived.SevenTiedAt
namespace Go.Proofs.YtdcfakbelnpljaaGreatDoor
open Go.ChangeShapes Go.WideShapes Go.ChangeAt Go.RowKit Go.Lib
open Go.ChangeMaps (open_string shut_string)
set_option linter.unusedVariables false
set_option maxRecDepth 100000


set_option maxHeartbeats 6400000 in
theorem back_00 (w : World) (f : FlowD) (A : Option Addr) (c : Nat) (s : ByteArray) (hsz : s.size ≤ 1500)
    (HK : Hid (∀ W, Below w.heap.size w W → Calls Tryz.prog 12 #[] W fun e w' => e = .returned (.bool true) ∧ Below W.heap.size W w'))
    (HL : Hid (∀ W, Below w.heap.size w W → Calls Tryz.prog 16 #[.agg #[.string (sb f.name), .int .i64 f.deadline, .int .i64 f.priority, .slice A f.tasks.length c]] W fun e w' => e = .returned (.bool false) ∧ Below W.heap.size W w'))
    (S : ByteArray) (x : Int) (hx : (x == 0) = false)
    (HP : Hid (∀ W, Below w.heap.size w W → Calls Tryz.prog 17 #[.agg #[.string (sb f.name), .int .i64 f.deadline, .int .i64 f.priority, .slice A f.tasks.length c]] W fun e w' => e = .returned (.tuple #[.string S, .int .i64 x]) ∧ Below W.heap.size W w'))
    (y at2 : Int) (hy : (y != 0) = true)
    (HQs : Hid (∀ W, Below w.heap.size w W → Calls Tryz.prog 13 #[.string s] W fun e w' => Below W.heap.size W w' ∧ ∃ A c, e = .returned (.tuple #[.agg #[.string ⟨#[]⟩, .int .i64 0, .int .i64 0, .slice A 0 c], .int .i64 at2, .int .i64 y])))
    : Calls Tryz.prog 5 #[.agg #[.string (sb f.name), .int .i64 f.deadline, .int .i64 f.priority, .slice A f.tasks.length c], .string s] w fun e w' => e = .returned (.bool true) ∧ Below w.heap.size w w' := by
  go_enter Tryz.func5, Tryz.ntmps5
  go_wp2_with fail
  refine (HL.out _ (al _ _)).mono ?_
  rintro e w1 ⟨rfl, hb1⟩
  have HB1 := Lib.hid (blw (al w (flowO f A c)) hb1)
  have HO1 : Hid (w1.heap[w.heap.size]? = some (flowO f A c)) := Lib.hid ((hb1.block _ (by simp)).trans (heap_alloc_new w _))
  clear hb1
  generalize eF : w.heap.size = fb at HO1 ⊢
  obtain ⟨p0, p1, p2, p3, hp⟩ := flowO_cells HO1.out
  go_wp2_with fail
  refine (HP.out _ HB1.out).mono ?_
  rintro e w2 ⟨rfl, hb2⟩
  have HB2 := Lib.hid (blw HB1.out hb2)
  have HO2 := Lib.hid (keep_obj hb2 HO1.out)
  clear hb2 p0 p1 p2 p3 hp HB1 HO1
  have HB4 := HB2
  clear HB2 HO2
  go_wp2_with fail
  refine (HQs.out _ HB4.out).mono ?_
  rintro e w5 ⟨hb5, A5, c5, rfl⟩
  have HB5 := Lib.hid (blw HB4.out hb5)
  clear hb5
  go_wp2_with fail
  refine (HK.out _ (blw HB5.out (al _ _))).mono ?_
  rintro e w6 ⟨rfl, hb6⟩
  go_wp2
  go_ret
  exact ⟨rfl, blw (blw HB5.out (al _ _)) hb6⟩

set_option maxHeartbeats 6400000 in
theorem back_01 (w : World) (f : FlowD) (A : Option Addr) (c : Nat) (s : ByteArray) (hsz : s.size ≤ 1500)
    (HK : Hid (∀ W, Below w.heap.size w W → Calls Tryz.prog 12 #[] W fun e w' => e = .returned (.bool true) ∧ Below W.heap.size W w'))
    (HL : Hid (∀ W, Below w.heap.size w W → Calls Tryz.prog 16 #[.agg #[.string (sb f.name), .int .i64 f.deadline, .int .i64 f.priority, .slice A f.tasks.length c]] W fun e w' => e = .returned (.bool false) ∧ Below W.heap.size W w'))
    (S : ByteArray) (x : Int) (hx : (x == 0) = false)
    (HP : Hid (∀ W, Below w.heap.size w W → Calls Tryz.prog 17 #[.agg #[.string (sb f.name), .int .i64 f.deadline, .int .i64 f.priority, .slice A f.tasks.length c]] W fun e w' => e = .returned (.tuple #[.string S, .int .i64 x]) ∧ Below W.heap.size W w'))
    (g : FlowD) (U : ByteArray)
    (HQs : Hid (∀ W, Below w.heap.size w W → Calls Tryz.prog 13 #[.string s] W fun e w' => Below W.heap.size W w' ∧ ∃ A c, e = .returned (.tuple #[.agg #[.string (sb g.name), .int .i64 g.deadline, .int .i64 g.priority, .slice A g.tasks.length c], .int .i64 0, .int .i64 0]) ∧ Tasks w' A c g.tasks))
    (HQu : Hid (∀ W, Below w.heap.size w W → Calls Tryz.prog 13 #[.string U] W fun e w' => Below W.heap.size W w' ∧ ∃ A c, e = .returned (.tuple #[.agg #[.string (sb g.name), .int .i64 g.deadline, .int .i64 g.priority, .slice A g.tasks.length c], .int .i64 0, .int .i64 0]) ∧ Tasks w' A c g.tasks))
    (HPg : Hid (∀ W B d, Below w.heap.size w W → Tasks W B d g.tasks → Calls Tryz.prog 17 #[.agg #[.string (sb g.name), .int .i64 g.deadline, .int .i64 g.priority, .slice B g.tasks.length d]] W fun e w' => e = .returned (.tuple #[.string U, .int .i64 0]) ∧ Below W.heap.size W w'))
    (HCg : Hid (∀ W B d, Below w.heap.size w W → Tasks W B d g.tasks → Calls Tryz.prog 19 #[.agg #[.string (sb g.name), .int .i64 g.deadline, .int .i64 g.priority, .slice B g.tasks.length d]] W fun e w' => e = .returned (.int .i64 0) ∧ Below W.heap.size W w'))
    (HSg : Hid (∀ W B d B2 d2, Below w.heap.size w W → Tasks W B d g.tasks → Tasks W B2 d2 g.tasks → Calls Tryz.prog 15 #[.agg #[.string (sb g.name), .int .i64 g.deadline, .int .i64 g.priority, .slice B g.tasks.length d], .agg #[.string (sb g.name), .int .i64 g.deadline, .int .i64 g.priority, .slice B2 g.tasks.length d2]] W fun e w' => e = .returned (.bool true) ∧ Below W.heap.size W w'))
    : Calls Tryz.prog 5 #[.agg #[.string (sb f.name), .int .i64 f.deadline, .int .i64 f.priority, .slice A f.tasks.length c], .string s] w fun e w' => e = .returned (.bool true) ∧ Below w.heap.size w w' := by
  go_enter Tryz.func5, Tryz.ntmps5
  go_wp2_with fail
  refine (HL.out _ (al _ _)).mono ?_
  rintro e w1 ⟨rfl, hb1⟩
  have HB1 := Lib.hid (blw (al w (flowO f A c)) hb1)
  have HO1 : Hid (w1.heap[w.heap.size]? = some (flowO f A c)) := Lib.hid ((hb1.block _ (by simp)).trans (heap_alloc_new w _))
  clear hb1
  generalize eF : w.heap.size = fb at HO1 ⊢
  obtain ⟨p0, p1, p2, p3, hp⟩ := flowO_cells HO1.out
  go_wp2_with fail
  refine (HP.out _ HB1.out).mono ?_
  rintro e w2 ⟨rfl, hb2⟩
  have HB2 := Lib.hid (blw HB1.out hb2)
  have HO2 := Lib.hid (keep_obj hb2 HO1.out)
  clear hb2 p0 p1 p2 p3 hp HB1 HO1
  have HB4 := HB2
  clear HB2 HO2
  have g0 : (U.toList == U.toList) = true := by simp
  go_wp2_with fail
  refine (HQs.out _ HB4.out).mono ?_
  rintro e w5 ⟨hb5, A5, c5, rfl, hT5⟩
  have HB5 := Lib.hid (blw HB4.out hb5)
  have HT5 := Lib.hid hT5
  clear hb5 hT5
  go_wp2_with fail
  refine (HPg.out _ A5 c5 (blw HB5.out (al _ _)) (HT5.out.below (al _ _))).mono ?_
  rintro e w6 ⟨rfl, hb6⟩
  have HB6 := Lib.hid (blw (blw HB5.out (al w5 (flowO g A5 c5))) hb6)
  have HG6 : Hid (w6.heap[w5.heap.size]? = some (flowO g A5 c5)) := Lib.hid ((hb6.block _ (by simp)).trans (heap_alloc_new w5 _))
  have HT6 := Lib.hid ((HT5.out.below (al w5 (flowO g A5 c5))).below hb6)
  clear hb6 HT5 HB5
  generalize eG : w5.heap.size = gb at HG6 ⊢
  go_wp2_with fail
  refine (HQu.out _ HB6.out).mono ?_
  rintro e w7 ⟨hb7, A7, c7, rfl, hT7⟩
  have HB7 := Lib.hid (blw HB6.out hb7)
  have HG7 := Lib.hid (keep_obj hb7 HG6.out)
  have HT7 := Lib.hid (HT6.out.below hb7)
  have HU7 := Lib.hid hT7
  clear hb7 hT7 HB6 HG6 HT6
  go_wp2_with fail
  refine (HPg.out _ A7 c7 (blw HB7.out (al _ _)) (HU7.out.below (al _ _))).mono ?_
  rintro e w8 ⟨rfl, hb8⟩
  have HB8 := Lib.hid (blw (blw HB7.out (al w7 (flowO g A7 c7))) hb8)
  have HG8 := Lib.hid (keep_obj hb8 (keep_obj (al w7 (flowO g A7 c7)) HG7.out))
  have HH8 : Hid (w8.heap[w7.heap.size]? = some (flowO g A7 c7)) := Lib.hid ((hb8.block _ (by simp)).trans (heap_alloc_new w7 _))
  have HT8 := Lib.hid ((HT7.out.below (al w7 (flowO g A7 c7))).below hb8)
  have HU8 := Lib.hid ((HU7.out.below (al w7 (flowO g A7 c7))).below hb8)
  clear hb8 HB7 HG7 HT7 HU7
  generalize eH : w7.heap.size = kb at HH8 ⊢
  obtain ⟨p0, p1, p2, p3, hp⟩ := flowO_cells HG8.out
  obtain ⟨q0, q1, q2, q3, hq⟩ := flowO_cells HH8.out
  go_wp2_with fail
  refine (HSg.out _ A5 c5 A7 c7 HB8.out HT8.out HU8.out).mono ?_
  rintro e w9 ⟨rfl, hb9⟩
  have HB9 := Lib.hid (blw HB8.out hb9)
  have HG9 := Lib.hid (keep_obj hb9 HG8.out)
  have HT9 := Lib.hid (HT8.out.below hb9)
  clear hb9 p0 p1 p2 p3 hp q0 q1 q2 q3 hq
  obtain ⟨p0, p1, p2, p3, hp⟩ := flowO_cells HG9.out
  go_wp2_with fail
  refine (HCg.out _ A5 c5 HB9.out HT9.out).mono ?_
  rintro e w10 ⟨rfl, hb10⟩
  have HB10 := Lib.hid (blw HB9.out hb10)
  clear hb10 p0 p1 p2 p3 hp
  go_wp2_with fail
  refine (HK.out _ HB10.out).mono ?_
  rintro e w11 ⟨rfl, hb11⟩
  go_wp2
  go_ret
  exact ⟨rfl, blw HB10.out hb11⟩

set_option maxHeartbeats 6400000 in
theorem back_10 (w : World) (f : FlowD) (A : Option Addr) (c : Nat) (s : ByteArray) (hsz : s.size ≤ 1500)
    (HK : Hid (∀ W, Below w.heap.size w W → Calls Tryz.prog 12 #[] W fun e w' => e = .returned (.bool true) ∧ Below W.heap.size W w'))
    (HL : Hid (∀ W, Below w.heap.size w W → Calls Tryz.prog 16 #[.agg #[.string (sb f.name), .int .i64 f.deadline, .int .i64 f.priority, .slice A f.tasks.length c]] W fun e w' => e = .returned (.bool false) ∧ Below W.heap.size W w'))
    (S : ByteArray)
    (HP : Hid (∀ W, Below w.heap.size w W → Calls Tryz.prog 17 #[.agg #[.string (sb f.name), .int .i64 f.deadline, .int .i64 f.priority, .slice A f.tasks.length c]] W fun e w' => e = .returned (.tuple #[.string S, .int .i64 0]) ∧ Below W.heap.size W w'))
    (HQ1 : Hid (∀ W, Below w.heap.size w W → Calls Tryz.prog 13 #[.string S] W fun e w' => Below W.heap.size W w' ∧ ∃ A c, e = .returned (.tuple #[.agg #[.string (sb f.name), .int .i64 f.deadline, .int .i64 f.priority, .slice A f.tasks.length c], .int .i64 0, .int .i64 0]) ∧ Tasks w' A c f.tasks))
    (HS1 : Hid (∀ W B d, Below w.heap.size w W → Tasks W B d f.tasks → Calls Tryz.prog 15 #[.agg #[.string (sb f.name), .int .i64 f.deadline, .int .i64 f.priority, .slice A f.tasks.length c], .agg #[.string (sb f.name), .int .i64 f.deadline, .int .i64 f.priority, .slice B f.tasks.length d]] W fun e w' => e = .returned (.bool true) ∧ Below W.heap.size W w'))
    (y at2 : Int) (hy : (y != 0) = true)
    (HQs : Hid (∀ W, Below w.heap.size w W → Calls Tryz.prog 13 #[.string s] W fun e w' => Below W.heap.size W w' ∧ ∃ A c, e = .returned (.tuple #[.agg #[.string ⟨#[]⟩, .int .i64 0, .int .i64 0, .slice A 0 c], .int .i64 at2, .int .i64 y])))
    : Calls Tryz.prog 5 #[.agg #[.string (sb f.name), .int .i64 f.deadline, .int .i64 f.priority, .slice A f.tasks.length c], .string s] w fun e w' => e = .returned (.bool true) ∧ Below w.heap.size w w' := by
  go_enter Tryz.func5, Tryz.ntmps5
  go_wp2_with fail
  refine (HL.out _ (al _ _)).mono ?_
  rintro e w1 ⟨rfl, hb1⟩
  have HB1 := Lib.hid (blw (al w (flowO f A c)) hb1)
  have HO1 : Hid (w1.heap[w.heap.size]? = some (flowO f A c)) := Lib.hid ((hb1.block _ (by simp)).trans (heap_alloc_new w _))
  clear hb1
  generalize eF : w.heap.size = fb at HO1 ⊢
  obtain ⟨p0, p1, p2, p3, hp⟩ := flowO_cells HO1.out
  go_wp2_with fail
  refine (HP.out _ HB1.out).mono ?_
  rintro e w2 ⟨rfl, hb2⟩
  have HB2 := Lib.hid (blw HB1.out hb2)
  have HO2 := Lib.hid (keep_obj hb2 HO1.out)
  clear hb2 p0 p1 p2 p3 hp HB1 HO1
  obtain ⟨p0, p1, p2, p3, hp⟩ := flowO_cells HO2.out
  go_wp2_with fail
  refine (HQ1.out _ HB2.out).mono ?_
  rintro e w3 ⟨hb3, A3, c3, rfl, hT3⟩
  have HB3 := Lib.hid (blw HB2.out hb3)
  have HO3 := Lib.hid (keep_obj hb3 HO2.out)
  have HT3 := Lib.hid hT3
  clear hb3 hT3 p0 p1 p2 p3 hp HB2 HO2
  obtain ⟨p0, p1, p2, p3, hp⟩ := flowO_cells HO3.out
  go_wp2_with fail
  refine (HS1.out _ A3 c3 (blw HB3.out (al _ _)) (HT3.out.below (al _ _))).mono ?_
  rintro e w4 ⟨rfl, hb4⟩
  have HB4 := Lib.hid (blw (blw HB3.out (al _ _)) hb4)
  clear hb4 p0 p1 p2 p3 hp HB3 HO3 HT3
  go_wp2_with fail
  refine (HQs.out _ HB4.out).mono ?_
  rintro e w5 ⟨hb5, A5, c5, rfl⟩
  have HB5 := Lib.hid (blw HB4.out hb5)
  clear hb5
  go_wp2_with fail
  refine (HK.out _ (blw HB5.out (al _ _))).mono ?_
  rintro e w6 ⟨rfl, hb6⟩
  go_wp2
  go_ret
  exact ⟨rfl, blw (blw HB5.out (al _ _)) hb6⟩

set_option maxHeartbeats 6400000 in
theorem back_11 (w : World) (f : FlowD) (A : Option Addr) (c : Nat) (s : ByteArray) (hsz : s.size ≤ 1500)
    (HK : Hid (∀ W, Below w.heap.size w W → Calls Tryz.prog 12 #[] W fun e w' => e = .returned (.bool true) ∧ Below W.heap.size W w'))
    (HL : Hid (∀ W, Below w.heap.size w W → Calls Tryz.prog 16 #[.agg #[.string (sb f.name), .int .i64 f.deadline, .int .i64 f.priority, .slice A f.tasks.length c]] W fun e w' => e = .returned (.bool false) ∧ Below W.heap.size W w'))
    (S : ByteArray)
    (HP : Hid (∀ W, Below w.heap.size w W → Calls Tryz.prog 17 #[.agg #[.string (sb f.name), .int .i64 f.deadline, .int .i64 f.priority, .slice A f.tasks.length c]] W fun e w' => e = .returned (.tuple #[.string S, .int .i64 0]) ∧ Below W.heap.size W w'))
    (HQ1 : Hid (∀ W, Below w.heap.size w W → Calls Tryz.prog 13 #[.string S] W fun e w' => Below W.heap.size W w' ∧ ∃ A c, e = .returned (.tuple #[.agg #[.string (sb f.name), .int .i64 f.deadline, .int .i64 f.priority, .slice A f.tasks.length c], .int .i64 0, .int .i64 0]) ∧ Tasks w' A c f.tasks))
    (HS1 : Hid (∀ W B d, Below w.heap.size w W → Tasks W B d f.tasks → Calls Tryz.prog 15 #[.agg #[.string (sb f.name), .int .i64 f.deadline, .int .i64 f.priority, .slice A f.tasks.length c], .agg #[.string (sb f.name), .int .i64 f.deadline, .int .i64 f.priority, .slice B f.tasks.length d]] W fun e w' => e = .returned (.bool true) ∧ Below W.heap.size W w'))
    (g : FlowD) (U : ByteArray)
    (HQs : Hid (∀ W, Below w.heap.size w W → Calls Tryz.prog 13 #[.string s] W fun e w' => Below W.heap.size W w' ∧ ∃ A c, e = .returned (.tuple #[.agg #[.string (sb g.name), .int .i64 g.deadline, .int .i64 g.priority, .slice A g.tasks.length c], .int .i64 0, .int .i64 0]) ∧ Tasks w' A c g.tasks))
    (HQu : Hid (∀ W, Below w.heap.size w W → Calls Tryz.prog 13 #[.string U] W fun e w' => Below W.heap.size W w' ∧ ∃ A c, e = .returned (.tuple #[.agg #[.string (sb g.name), .int .i64 g.deadline, .int .i64 g.priority, .slice A g.tasks.length c], .int .i64 0, .int .i64 0]) ∧ Tasks w' A c g.tasks))
    (HPg : Hid (∀ W B d, Below w.heap.size w W → Tasks W B d g.tasks → Calls Tryz.prog 17 #[.agg #[.string (sb g.name), .int .i64 g.deadline, .int .i64 g.priority, .slice B g.tasks.length d]] W fun e w' => e = .returned (.tuple #[.string U, .int .i64 0]) ∧ Below W.heap.size W w'))
    (HCg : Hid (∀ W B d, Below w.heap.size w W → Tasks W B d g.tasks → Calls Tryz.prog 19 #[.agg #[.string (sb g.name), .int .i64 g.deadline, .int .i64 g.priority, .slice B g.tasks.length d]] W fun e w' => e = .returned (.int .i64 0) ∧ Below W.heap.size W w'))
    (HSg : Hid (∀ W B d B2 d2, Below w.heap.size w W → Tasks W B d g.tasks → Tasks W B2 d2 g.tasks → Calls Tryz.prog 15 #[.agg #[.string (sb g.name), .int .i64 g.deadline, .int .i64 g.priority, .slice B g.tasks.length d], .agg #[.string (sb g.name), .int .i64 g.deadline, .int .i64 g.priority, .slice B2 g.tasks.length d2]] W fun e w' => e = .returned (.bool true) ∧ Below W.heap.size W w'))
    : Calls Tryz.prog 5 #[.agg #[.string (sb f.name), .int .i64 f.deadline, .int .i64 f.priority, .slice A f.tasks.length c], .string s] w fun e w' => e = .returned (.bool true) ∧ Below w.heap.size w w' := by
  go_enter Tryz.func5, Tryz.ntmps5
  go_wp2_with fail
  refine (HL.out _ (al _ _)).mono ?_
  rintro e w1 ⟨rfl, hb1⟩
  have HB1 := Lib.hid (blw (al w (flowO f A c)) hb1)
  have HO1 : Hid (w1.heap[w.heap.size]? = some (flowO f A c)) := Lib.hid ((hb1.block _ (by simp)).trans (heap_alloc_new w _))
  clear hb1
  generalize eF : w.heap.size = fb at HO1 ⊢
  obtain ⟨p0, p1, p2, p3, hp⟩ := flowO_cells HO1.out
  go_wp2_with fail
  refine (HP.out _ HB1.out).mono ?_
  rintro e w2 ⟨rfl, hb2⟩
  have HB2 := Lib.hid (blw HB1.out hb2)
  have HO2 := Lib.hid (keep_obj hb2 HO1.out)
  clear hb2 p0 p1 p2 p3 hp HB1 HO1
  obtain ⟨p0, p1, p2, p3, hp⟩ := flowO_cells HO2.out
  go_wp2_with fail
  refine (HQ1.out _ HB2.out).mono ?_
  rintro e w3 ⟨hb3, A3, c3, rfl, hT3⟩
  have HB3 := Lib.hid (blw HB2.out hb3)
  have HO3 := Lib.hid (keep_obj hb3 HO2.out)
  have HT3 := Lib.hid hT3
  clear hb3 hT3 p0 p1 p2 p3 hp HB2 HO2
  obtain ⟨p0, p1, p2, p3, hp⟩ := flowO_cells HO3.out
  go_wp2_with fail
  refine (HS1.out _ A3 c3 (blw HB3.out (al _ _)) (HT3.out.below (al _ _))).mono ?_
  rintro e w4 ⟨rfl, hb4⟩
  have HB4 := Lib.hid (blw (blw HB3.out (al _ _)) hb4)
  clear hb4 p0 p1 p2 p3 hp HB3 HO3 HT3
  have g0 : (U.toList == U.toList) = true := by simp
  go_wp2_with fail
  refine (HQs.out _ HB4.out).mono ?_
  rintro e w5 ⟨hb5, A5, c5, rfl, hT5⟩
  have HB5 := Lib.hid (blw HB4.out hb5)
  have HT5 := Lib.hid hT5
  clear hb5 hT5
  go_wp2_with fail
  refine (HPg.out _ A5 c5 (blw HB5.out (al _ _)) (HT5.out.below (al _ _))).mono ?_
  rintro e w6 ⟨rfl, hb6⟩
  have HB6 := Lib.hid (blw (blw HB5.out (al w5 (flowO g A5 c5))) hb6)
  have HG6 : Hid (w6.heap[w5.heap.size]? = some (flowO g A5 c5)) := Lib.hid ((hb6.block _ (by simp)).trans (heap_alloc_new w5 _))
  have HT6 := Lib.hid ((HT5.out.below (al w5 (flowO g A5 c5))).below hb6)
  clear hb6 HT5 HB5
  generalize eG : w5.heap.size = gb at HG6 ⊢
  go_wp2_with fail
  refine (HQu.out _ HB6.out).mono ?_
  rintro e w7 ⟨hb7, A7, c7, rfl, hT7⟩
  have HB7 := Lib.hid (blw HB6.out hb7)
  have HG7 := Lib.hid (keep_obj hb7 HG6.out)
  have HT7 := Lib.hid (HT6.out.below hb7)
  have HU7 := Lib.hid hT7
  clear hb7 hT7 HB6 HG6 HT6
  go_wp2_with fail
  refine (HPg.out _ A7 c7 (blw HB7.out (al _ _)) (HU7.out.below (al _ _))).mono ?_
  rintro e w8 ⟨rfl, hb8⟩
  have HB8 := Lib.hid (blw (blw HB7.out (al w7 (flowO g A7 c7))) hb8)
  have HG8 := Lib.hid (keep_obj hb8 (keep_obj (al w7 (flowO g A7 c7)) HG7.out))
  have HH8 : Hid (w8.heap[w7.heap.size]? = some (flowO g A7 c7)) := Lib.hid ((hb8.block _ (by simp)).trans (heap_alloc_new w7 _))
  have HT8 := Lib.hid ((HT7.out.below (al w7 (flowO g A7 c7))).below hb8)
  have HU8 := Lib.hid ((HU7.out.below (al w7 (flowO g A7 c7))).below hb8)
  clear hb8 HB7 HG7 HT7 HU7
  generalize eH : w7.heap.size = kb at HH8 ⊢
  obtain ⟨p0, p1, p2, p3, hp⟩ := flowO_cells HG8.out
  obtain ⟨q0, q1, q2, q3, hq⟩ := flowO_cells HH8.out
  go_wp2_with fail
  refine (HSg.out _ A5 c5 A7 c7 HB8.out HT8.out HU8.out).mono ?_
  rintro e w9 ⟨rfl, hb9⟩
  have HB9 := Lib.hid (blw HB8.out hb9)
  have HG9 := Lib.hid (keep_obj hb9 HG8.out)
  have HT9 := Lib.hid (HT8.out.below hb9)
  clear hb9 p0 p1 p2 p3 hp q0 q1 q2 q3 hq
  obtain ⟨p0, p1, p2, p3, hp⟩ := flowO_cells HG9.out
  go_wp2_with fail
  refine (HCg.out _ A5 c5 HB9.out HT9.out).mono ?_
  rintro e w10 ⟨rfl, hb10⟩
  have HB10 := Lib.hid (blw HB9.out hb10)
  clear hb10 p0 p1 p2 p3 hp
  go_wp2_with fail
  refine (HK.out _ HB10.out).mono ?_
  rintro e w11 ⟨rfl, hb11⟩
  go_wp2
  go_ret
  exact ⟨rfl, blw HB10.out hb11⟩

set_option maxHeartbeats 3200000 in
theorem walk_FlowBack (w : World) (hT : Tb3 w) (f : FlowD) (A : Option Addr) (c : Nat) (h : Tasks w A c f.tasks) (hs : Small f) (s : ByteArray) (hss : s.size ≤ maxLen) :
    Calls Tryz.prog 5 #[.agg #[.string (sb f.name), .int .i64 f.deadline, .int .i64 f.priority, .slice A f.tasks.length c], .string s] w fun e w' => e = .returned (.bool true) ∧ Below w.heap.size w w' := by
  obtain ⟨m, rfl⟩ : ∃ m, s = sb m := ⟨s.data.toList, (sb_data s).symm⟩
  have hk := fun W (hW : Below w.heap.size w W) => known_any W (hT.below hW)
  have hl := fun W (hW : Below w.heap.size w W) => long_any f A c W (h.below hW) hs
  have HK := Lib.hid hk
  have hmz : m.length ≤ maxLen := by rwa [sb_size] at hss
  by_cases hlen : 1500 < (sb m).size
  · have HL := Lib.hid hl
    clear hl hk
    have hlong : longD f = true ∨ longD f = false := by cases longD f <;> simp
    rcases hlong with hlong | hlong
    all_goals
      rw [hlong] at HL
      go_enter Tryz.func5, Tryz.ntmps5
      go_wp2_with fail
      refine (HL.out _ (al _ _)).mono ?_
      rintro e w1 ⟨rfl, hb1⟩
      have HB1 := Lib.hid (blw (al w (flowO f A c)) hb1)
      clear hb1
      go_wp2_with fail
      refine (HK.out _ HB1.out).mono ?_
      rintro e w2 ⟨rfl, hb2⟩
      go_wp2
      go_ret
      exact ⟨rfl, blw HB1.out hb2⟩
  · cases hlong : longD f
    case true =>
      rw [hlong] at hl
      have HL := Lib.hid hl
      clear hl hk
      go_enter Tryz.func5, Tryz.ntmps5
      go_wp2_with fail
      refine (HL.out _ (al _ _)).mono ?_
      rintro e w1 ⟨rfl, hb1⟩
      have HB1 := Lib.hid (blw (al w (flowO f A c)) hb1)
      clear hb1
      go_wp2_with fail
      refine (HK.out _ HB1.out).mono ?_
      rintro e w2 ⟨rfl, hb2⟩
      go_wp2
      go_ret
      exact ⟨rfl, blw HB1.out hb2⟩
    case false =>
      rw [hlong] at hl
      have hsz : (sb m).size ≤ 1500 := by omega
      have hm15 : m.length ≤ 1500 := by rw [sb_size] at hsz; exact hsz
      have n1 : f.name.length ≤ 9000000000000000000 := Nat.le_trans hs.1 (by decide)
      have n2 : ∀ t ∈ f.tasks, t.name.length ≤ 9000000000000000000 := fun t ht => Nat.le_trans (hs.2 t ht).1 (by decide)
      have hP := fun W (hW : Below w.heap.size w W) => print_all f A c W (h.below hW) (hT.below hW) n1 n2
      have pq : ∀ (l : List UInt8) (g : FlowD), l.length ≤ maxLen → parseD l = (g, 0, 0) → ∀ W, Below w.heap.size w W → Calls Tryz.prog 13 #[.string (sb l)] W fun e w' => Below W.heap.size W w' ∧ ∃ A c, e = .returned (.tuple #[.agg #[.string (sb g.name), .int .i64 g.deadline, .int .i64 g.priority, .slice A g.tasks.length c], .int .i64 0, .int .i64 0]) ∧ Tasks w' A c g.tasks := by
        intro l g hl hp W hW
        have := parse_all l W hl (hT.below hW)
        rw [hp] at this
        exact this
      obtain ⟨⟨g, i, y⟩, hg⟩ : ∃ r, parseD m = r := ⟨_, rfl⟩
      have h2 : y = 0 ∨ y ≠ 0 := by omega
      have hbad : y ≠ 0 → ∀ W, Below w.heap.size w W → Calls Tryz.prog 13 #[.string (sb m)] W fun e w' => Below W.heap.size W w' ∧ ∃ A c, e = .returned (.tuple #[.agg #[.string ⟨#[]⟩, .int .i64 0, .int .i64 0, .slice A 0 c], .int .i64 (i : Int), .int .i64 y]) := by
        intro hy W hW
        have := parse_all m W hmz (hT.below hW)
        rw [hg] at this
        have hgn := parse_noFlow hg hy
        subst hgn
        refine this.mono ?_
        rintro e w' ⟨hb, A', c', he, _⟩
        exact ⟨hb, A', c', he⟩
      have hgood : y = 0 → ∃ U : List UInt8, (∀ W, Below w.heap.size w W → Calls Tryz.prog 13 #[.string (sb m)] W fun e w' => Below W.heap.size W w' ∧ ∃ A c, e = .returned (.tuple #[.agg #[.string (sb g.name), .int .i64 g.deadline, .int .i64 g.priority, .slice A g.tasks.length c], .int .i64 0, .int .i64 0]) ∧ Tasks w' A c g.tasks) ∧
          (∀ W, Below w.heap.size w W → Calls Tryz.prog 13 #[.string (sb U)] W fun e w' => Below W.heap.size W w' ∧ ∃ A c, e = .returned (.tuple #[.agg #[.string (sb g.name), .int .i64 g.deadline, .int .i64 g.priority, .slice A g.tasks.length c], .int .i64 0, .int .i64 0]) ∧ Tasks w' A c g.tasks) ∧
          (∀ W B d, Below w.heap.size w W → Tasks W B d g.tasks → Calls Tryz.prog 17 #[.agg #[.string (sb g.name), .int .i64 g.deadline, .int .i64 g.priority, .slice B g.tasks.length d]] W fun e w' => e = .returned (.tuple #[.string (sb U), .int .i64 0]) ∧ Below W.heap.size W w') ∧
          (∀ W B d, Below w.heap.size w W → Tasks W B d g.tasks → Calls Tryz.prog 19 #[.agg #[.string (sb g.name), .int .i64 g.deadline, .int .i64 g.priority, .slice B g.tasks.length d]] W fun e w' => e = .returned (.int .i64 0) ∧ Below W.heap.size W w') := by
        intro hy
        subst hy
        obtain ⟨hc, hi, hpl⟩ := print_short hm15 hg
        subst hi
        have hF := fine_of hc
        have g1 : g.name.length ≤ 9000000000000000000 := Nat.le_trans (nameD_len hF.name) (by decide)
        have g2 : ∀ t ∈ g.tasks, t.name.length ≤ 9000000000000000000 := fun t ht => Nat.le_trans (nameD_len (hF.tname ht).1) (by decide)
        refine ⟨printL g, pq m g hmz hg, pq _ g (Nat.le_trans hpl (by decide)) (print_back hc hpl), fun W B d hW hB => ?_, fun W B d hW hB => ?_⟩
        · have := print_all g B d W hB (hT.below hW) g1 g2
          rw [if_pos hc, hc] at this
          exact this
        · have := check_all g B d W hB (hT.below hW) g1 g2
          rw [hc] at this
          exact this
      have HSG := Lib.hid fun (g : FlowD) W B d B2 d2 (_ : Below w.heap.size w W) (a : Tasks W B d g.tasks) (b : Tasks W B2 d2 g.tasks) => by
        have := rsame_flow g g W B B2 d d2 a b
        rw [eqv_yes rfl] at this
        exact this
      by_cases hx : checkE f = 0
      · rw [if_pos hx, hx] at hP
        have hpl := print_len hx hlong
        have hq := pq _ f (Nat.le_trans hpl (by decide)) (print_back hx hpl)
        have hS1 := fun W B d (hW : Below w.heap.size w W) (b : Tasks W B d f.tasks) => HSG.out f W A c B d hW (h.below hW) b
        rcases h2 with hy | hy
        · obtain ⟨U, u1, u2, u3, u4⟩ := hgood hy
          exact back_11 w f A c (sb m) hsz HK (Lib.hid hl) _ (Lib.hid hP) (Lib.hid hq) (Lib.hid hS1) g (sb U) (Lib.hid u1) (Lib.hid u2) (Lib.hid u3) (Lib.hid u4) (Lib.hid (HSG.out g))
        · exact back_10 w f A c (sb m) hsz HK (Lib.hid hl) _ (Lib.hid hP) (Lib.hid hq) (Lib.hid hS1) y i (by simp [hy]) (Lib.hid (hbad hy))
      · rw [if_neg hx] at hP
        rcases h2 with hy | hy
        · obtain ⟨U, u1, u2, u3, u4⟩ := hgood hy
          exact back_01 w f A c (sb m) hsz HK (Lib.hid hl) _ _ (by simp [hx]) (Lib.hid hP) g (sb U) (Lib.hid u1) (Lib.hid u2) (Lib.hid u3) (Lib.hid u4) (Lib.hid (HSG.out g))
        · exact back_00 w f A c (sb m) hsz HK (Lib.hid hl) _ _ (by simp [hx]) (Lib.hid hP) y i (by simp [hy]) (Lib.hid (hbad hy))

namespace flowBack
theorem own : ownKnob Tryz.prog.godebug = none := by kernel_rfl
theorem laidOut : laidOutB Tryz.prog = true := by kernel_rfl
set_option maxRecDepth 100000 in
theorem lifted (os : Os) (started : os.Started) (H : Type) (enc : TypeId × Value → H) :
    ReturnsInHanded {} Tryz.checked os 5 .any (fun w args => (Rows.flowBackSpec.pre enc Tryz.prog Tryz.f5 [] false w args ∧ laidMetH Tryz.prog laid7 w) ∧ sizedMet enc Tryz.prog Tryz.f5 (OpenSpec.ofChange Rows.flowBackSpec) false w args)
      (Rows.flowBackSpec.post enc Tryz.prog Tryz.f5 false true false false) := by
  refine returnsInHanded_of_change_and (C := Tryz.checked) (X := fun w _ => laidMetH Tryz.prog laid7 w) (fun _ _ _ hh h => h.of_heap hh) own started (by kernel_rfl) Tryz.func5
    (ChangeSpec.witness_shaped (enc := enc) (C := Tryz.checked) (os := os) (X := fun w _ => laidMetH Tryz.prog laid7 w) false (World.laidAll Tryz.prog os laid7) #[.agg #[.string ByteArray.empty, .int .i64 0, .int .i64 0, .slice none 0 0], .string ByteArray.empty] 8 (World.laidAll_os _ _ _)
      (World.shaped_of_ZipB (by kernel_rfl) (by kernel_rfl)) (by kernel_rfl) (by kernel_rfl) (by kernel_rfl)
      (by rw [MakeChecks.laidMetH_plain _ _ _ (by kernel_rfl)]; exact laidMet_laidAll _ (by kernel_rfl) (by kernel_rfl))) ?_
  intro W base args ds gs before hval0 hW _ hsz hL _
  have hval : ∀ (j : Nat) t v, Tryz.f5.params[j]? = some t → args[j]? = some v → Value.okWide Tryz.prog W .any base t v := hval0
  have hW' := hW
  obtain ⟨p, q, hA0, hV, rfl, _, _⟩ := hW
  have hA : DataW.TrodAll enc Tryz.prog W 0 (fun _ => true) true Tryz.f5.params.toList args.toList ds p := hA0
  rw [Tryz.params5] at hA hval
  obtain ⟨v0, vs0, d0, ds0, p0, q0, hargs, rfl, rfl, h0, r0⟩ := trodAll_cons hA
  obtain ⟨v1, vs1, d1, ds1, p1, q1, rfl, rfl, rfl, h1, r1⟩ := trodAll_cons r0
  obtain ⟨rfl, rfl, rfl⟩ := trodAll_nil r1
  obtain rfl : args = #[v0, v1] := by cases args; simp_all
  obtain ⟨rfl, rfl⟩ := trodVars_none hV
  have k0 := h0
  have lt0 : ∀ x ∈ p0, x.block < W.heap.size := by obtain ⟨m, hm⟩ := k0; exact DataW.trod_lt m _ _ _ hm
  obtain ⟨cs0, e0, _⟩ := okWide_struct Tryz.underlying25 (hval 0 25 v0 rfl rfl)
  obtain ⟨fuel0, hf0⟩ := h0
  rw [show v0.cells.toList = cs0.toList from by rw [e0]; rfl] at hf0
  obtain ⟨z0, A0, c0, hcs0, w0, s0⟩ := flow_arg hf0
  obtain rfl : cs0 = #[.string (sb z0.name), .int .i64 z0.deadline, .int .i64 z0.priority, .slice A0 z0.tasks.length c0] := by rw [← Array.toArray_toList (xs := cs0), hcs0]
  subst e0
  have s0 := s0 (weights_at hsz (j := 0) (t := 25) rfl rfl)
  clear hf0 hcs0
  obtain ⟨a1, rfl, rfl, rfl, w1⟩ := open_string Tryz.underlying9 (hval 1 9 v1 rfl rfl) h1
  clear hA0 hval0
  rw [MakeChecks.laidMetH_plain _ _ _ (by kernel_rfl)] at hL
  refine (walk_FlowBack W (tabs_of hL) z0 A0 c0 w0 s0 a1 w1).mono fun e W' ⟨he, bel⟩ => ?_
  subst he
  exact ⟨_, rfl, _, _, _, [], _, [], hW', trodAll_mk1 (shut_bool Tryz.underlying4 _), (trodAll_cons_mk (Below.trod laidOut (by kernel_rfl) (of_decide_eq_true (by kernel_rfl)) k0 bel lt0) (trodAll_cons_mk (shut_string Tryz.underlying9 w1) trodAll_mk0)), rfl, bel.frame _, fun h => by cases h⟩
theorem said : Rows.FlowBackSaid :=
  OpenClaim.holds_of_wide 5 Tryz.f5 rfl rfl rfl rfl rfl rfl rfl ⟨rfl, rfl, rfl, rfl, rfl⟩ rfl rfl rfl rfl rfl (by kernel_rfl) Tryz.func5 (by kernel_rfl)
    (of_decide_eq_true (by kernel_rfl)) (by unfold Func.isWrapper; first | (rw [if_pos (by decide +kernel)]; kernel_rfl) | (rw [if_neg (by decide +kernel)]; exact ⟨rfl, rfl⟩))
    (fun os started H enc _ => lifted os started H enc)
theorem plain (f : FuncId) (fn : Func) (hf : Tryz.pinned.checked.prog.funcNamed "timekeeper/timekeeperlaw06.FlowBack" = some f) (hfn : Tryz.pinned.checked.prog.funcs[f]? = some fn) :
    false = Tryz.pinned.checked.prog.looks [] ∧ ∀ (j : Nat) t, fn.params[j]? = some t → Tryz.pinned.checked.prog.wantsStandIn t = false := by
  obtain rfl : f = 5 := Option.some.inj ((show Tryz.prog.funcNamed "timekeeper/timekeeperlaw06.FlowBack" = some 5 by kernel_rfl).symm.trans hf) |>.symm
  obtain rfl : fn = Tryz.f5 := (Option.some.inj (Tryz.func5.symm.trans hfn)).symm
  refine ⟨by kernel_rfl, fun j t ht => ?_⟩
  rw [Tryz.params5] at ht
  have hm : t ∈ [25, 9] := by simpa using Array.mem_of_getElem? ht
  have hall : ([25, 9].all fun u => !Tryz.prog.wantsStandIn u) = true := by kernel_rfl
  exact (show Tryz.prog.wantsStandIn t = false by simpa using List.all_eq_true.1 hall t hm)
theorem proved : Rows.FlowBackCardSaid :=
  Claim7.holds_tied_plain_at .later [] _ _ _ _ said (fun _ h => by cases h) (by kernel_rfl) (fun _ h => by cases h) flowBack_row_tie rfl ⟨rfl, rfl⟩ (by kernel_rfl) rfl plain (by kernel_rfl)
#print axioms proved
end flowBack
end Go.Proofs.YtdcfakbelnpljaaGreatDoor
