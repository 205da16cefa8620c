/- FlowFinds: for any workflow and any string, the law returns true, and all read afterwards as before. The library's and the program's tables are as the card ties them. -/
import Derived.Test.YtdcfakbelnpljaaGreatDoorRows
import Derived.Test.YtdcfakbelnpljaaGreatDoorCards
import Derived.Test.YtdcfakbelnpljaaGreatDoorTie
import Derived.Test.YtdcfakbelnpljaaGreatDoorFlwMst
import Derived.Test.YtdcfakbelnpljaaGreatDoorFlwRSame
import Derived.Test.YtdcfakbelnpljaaGreatDoorFlwTabs
import Derived.WalkKit
import Derived.ProofKit
import Derived.OpenShut
import Derived.ShutString
import Derived.Deep.RegionHeld3
import Derived.ChangeOld
import Derived.Below
import Derived.SevenTiedAt
namespace Go.Proofs.YtdcfakbelnpljaaGreatDoor
open Go.ChangeShapes Go.WideShapes Go.ChangeAt Go.RowKit Go.Lib
open Go.ChangeMaps (open_string shut_string)
open Dag (Ints IRows Own1 OwnI ints)
set_option linter.unusedVariables false
set_option maxRecDepth 100000

set_option maxHeartbeats 6400000 in
theorem finds_core (w : World) (f : FlowD) (A : Option Addr) (c : Nat) (m : ByteArray) (i0 : Int) (hlen : f.tasks.length ≤ 30) (hal : ∀ t ∈ f.tasks, t.after.length ≤ 500)
    (H : Hid (∀ W, Below w.heap.size w W → Tasks W A c f.tasks)) (HNM : Hid (∀ t ∈ f.tasks, t.name.length ≤ maxLen))
    (HK : Hid (∀ W, Below w.heap.size w W → Calls Tryz.prog 12 #[] W fun e w' => e = .returned (.bool true) ∧ Below W.heap.size W w'))
    (HL : Hid (∀ W, Below w.heap.size w W → Calls Tryz.prog 16 #[.agg #[.string (sb f.name), .int .i64 f.deadline, .int .i64 f.priority, .slice A f.tasks.length c]] W fun e w' => e = .returned (.bool false) ∧ Below W.heap.size W w'))
    (C1 : Hid (∀ W, Below w.heap.size w W → Calls Tryz.prog 24 #[.agg #[.string (sb f.name), .int .i64 f.deadline, .int .i64 f.priority, .slice A f.tasks.length c], .string m] W fun e w' => e = .returned (.tuple #[.int .i64 (max i0 0), .bool (decide (0 ≤ i0))]) ∧ Below W.heap.size W w'))
    (C2 : Hid (∀ W, Below w.heap.size w W → Calls Tryz.prog 25 #[.agg #[.string (sb f.name), .int .i64 f.deadline, .int .i64 f.priority, .slice A f.tasks.length c], .string m] W fun e w' => e = .returned (.int .i64 i0) ∧ Below W.heap.size W w'))
    (C3 : Hid (∀ W, Below w.heap.size w W → Calls Tryz.prog 26 #[.agg #[.string (sb f.name), .int .i64 f.deadline, .int .i64 f.priority, .slice A f.tasks.length c]] W fun e w' => ∃ A' c', e = .returned (.slice A' f.tasks.length c') ∧ Dag.IRows w' A' c' (afterL f.tasks) ∧ Below W.heap.size W w'))
    (C4 : Hid (∀ W, Below w.heap.size w W → Calls Tryz.prog 28 #[.agg #[.string (sb f.name), .int .i64 f.deadline, .int .i64 f.priority, .slice A f.tasks.length c]] W fun e w' => ∃ A' c', e = .returned (.slice A' f.tasks.length c') ∧ Dag.IRows w' A' c' (afterL f.tasks) ∧ Below W.heap.size W w'))
    (C5 : Hid (∀ W, Below w.heap.size w W → Calls Tryz.prog 29 #[.agg #[.string (sb f.name), .int .i64 f.deadline, .int .i64 f.priority, .slice A f.tasks.length c]] W (RetCopy f W)))
    (C6 : Hid (∀ W B d, Below w.heap.size w W → Tasks W B d f.tasks → Calls Tryz.prog 30 #[.agg #[.string (sb f.name), .int .i64 f.deadline, .int .i64 f.priority, .slice B f.tasks.length d], .agg #[.string (sb f.name), .int .i64 f.deadline, .int .i64 f.priority, .slice A f.tasks.length c]] W fun e w' => e = .returned (.bool true) ∧ Below W.heap.size W w'))
    (C7 : Hid (∀ W B d, Below w.heap.size w W → Tasks W B d f.tasks → Calls Tryz.prog 15 #[.agg #[.string (sb f.name), .int .i64 f.deadline, .int .i64 f.priority, .slice B f.tasks.length d], .agg #[.string (sb f.name), .int .i64 f.deadline, .int .i64 f.priority, .slice A f.tasks.length c]] W fun e w' => e = .returned (.bool true) ∧ Below W.heap.size W w')) :
    Calls Tryz.prog 7 #[.agg #[.string (sb f.name), .int .i64 f.deadline, .int .i64 f.priority, .slice A f.tasks.length c], .string m] w fun e w' => e = .returned (.bool true) ∧ Below w.heap.size w w' := by
  have HAL : Hid ((afterL f.tasks).length = f.tasks.length) := Lib.hid (by simp [afterL])
  have HA5 := Lib.hid hal
  clear hal
  go_enter Tryz.func7, Tryz.ntmps7
  go_wp2_with fail
  refine (HL.out _ (al _ _)).mono ?_
  rintro e w1 ⟨rfl, hb1⟩
  have HB1 := Lib.hid (blw (al w (flowO f A c)) hb1)
  have HO1 : Hid (w1.heap[w.heap.size]? = some (flowO f A c)) := Lib.hid ((hb1.block _ (by simp)).trans (heap_alloc_new w _))
  clear hb1
  generalize eF : w.heap.size = fb at HO1 ⊢
  obtain ⟨p0, p1, p2, p3, hp⟩ := flowO_cells HO1.out
  go_wp2_with fail
  refine (C1.out _ HB1.out).mono ?_
  rintro e w2 ⟨rfl, hb2⟩
  have HB2 := Lib.hid (blw HB1.out hb2)
  have HO2 := Lib.hid (keep_obj hb2 HO1.out)
  clear hb2 p0 p1 p2 p3 hp HB1 HO1
  obtain ⟨p0, p1, p2, p3, hp⟩ := flowO_cells HO2.out
  go_wp2_with fail
  refine (C2.out _ HB2.out).mono ?_
  rintro e w3 ⟨rfl, hb3⟩
  have HB3 := Lib.hid (blw HB2.out hb3)
  have HO3 := Lib.hid (keep_obj hb3 HO2.out)
  clear hb3 p0 p1 p2 p3 hp HB2 HO2
  obtain ⟨p0, p1, p2, p3, hp⟩ := flowO_cells HO3.out
  go_wp2_with fail
  refine (C3.out _ HB3.out).mono ?_
  rintro e w4 ⟨A4, c4, rfl, hr4, hb4⟩
  have HB4 := Lib.hid (blw HB3.out hb4)
  have HO4 := Lib.hid (keep_obj hb4 HO3.out)
  have HR4 := Lib.hid hr4
  clear hb4 p0 p1 p2 p3 hp hr4 HB3 HO3
  obtain ⟨p0, p1, p2, p3, hp⟩ := flowO_cells HO4.out
  · go_wp2_with fail
    refine (C4.out _ HB4.out).mono ?_
    rintro e w5 ⟨A5, c5, rfl, hr5, hb5⟩
    have HB5 := Lib.hid (blw HB4.out hb5)
    have HO5 := Lib.hid (keep_obj hb5 HO4.out)
    have HR5 := Lib.hid hr5
    have HR4' := Lib.hid (HR4.out.below hb5)
    clear hb5 p0 p1 p2 p3 hp hr5 HB4 HO4 HR4
    go_wp2_with fail
    refine (Dag.sameL_any (afterL f.tasks) _ _ HAL.out HAL.out _ _ _ _ _ HR4'.out HR5.out).mono ?_
    rintro e w6 ⟨rfl, hb6⟩
    have HB6 := Lib.hid (blw HB5.out hb6)
    have HO6 := Lib.hid (keep_obj hb6 HO5.out)
    clear hb6 HB5 HO5 HR4' HR5
    obtain ⟨p0, p1, p2, p3, hp⟩ := flowO_cells HO6.out
    go_wp2_with fail
    refine (C5.out _ HB6.out).mono ?_
    rintro e w7 ⟨A7, c7, L7, rfl, hL7, hc7, hb7⟩
    have HB7 := Lib.hid (blw HB6.out hb7)
    have HO7 := Lib.hid (keep_obj hb7 HO6.out)
    have HC7 := Lib.hid hc7
    have HE7 := Lib.hid hL7
    have HT7 := Lib.hid (hc7.tasks hL7 HNM.out)
    have HS7 := Lib.hid hb7
    clear hb7 hc7 hL7 p0 p1 p2 p3 hp
    obtain ⟨p0, p1, p2, p3, hp⟩ := flowO_cells HO7.out
    go_wp2_with fail
    refine (C6.out _ A7 c7 (blw HB7.out (al _ _)) (HT7.out.below (al _ _))).mono ?_
    rintro e w8 ⟨rfl, hb8⟩
    have HB8 := Lib.hid (blw (blw HB7.out (al w7 (flowO f A7 c7))) hb8)
    have HO8 := Lib.hid (keep_obj hb8 (keep_obj (al w7 (flowO f A7 c7)) HO7.out))
    have HG8 : Hid (w8.heap[w7.heap.size]? = some (flowO f A7 c7)) := Lib.hid ((hb8.block _ (by simp)).trans (heap_alloc_new w7 _))
    have HS8 := Lib.hid (blw (al w7 (flowO f A7 c7)) hb8)
    clear hb8 p0 p1 p2 p3 hp HO7 HB7
    have HSZ : Hid (w7.heap.size < w8.heap.size) := Lib.hid (Dag.blk_lt HG8.out)
    obtain ⟨cb, ecb⟩ : ∃ cb, w7.heap.size = cb := ⟨_, rfl⟩
    have ECB := Lib.hid ecb
    rw [ecb] at HG8 ⊢
    clear ecb
    obtain ⟨p0, p1, p2, p3, hp⟩ := flowO_cells HO8.out
    obtain ⟨q0, q1, q2, q3, hq⟩ := flowO_cells HG8.out
    go_wp2_with fail
    refine (C7.out _ A7 c7 HB8.out (HT7.out.below HS8.out)).mono ?_
    rintro e w9 ⟨rfl, hb9⟩
    have HB9 := Lib.hid (blw HB8.out hb9)
    have HO9 := Lib.hid (keep_obj hb9 HO8.out)
    have HG9 := Lib.hid (keep_obj hb9 HG8.out)
    have HS9 := Lib.hid (blw HS8.out hb9)
    have HSZ9 : Hid (cb < w9.heap.size) := Lib.hid (Dag.blk_lt HG9.out)
    clear hb9 p0 p1 p2 p3 hp q0 q1 q2 q3 hq HB8 HO8 HG8 HS8 HSZ HT7
    obtain ⟨p0, p1, p2, p3, hp⟩ := flowO_cells HO9.out
    go_wp2_with fail
    refine (C5.out _ HB9.out).mono ?_
    rintro e w10 ⟨A10, c10, L10, rfl, hL10, hc10, hb10⟩
    have HB10 := Lib.hid (blw (blw HB9.out hb10) (al w10 (flowO f A10 c10)))
    have HO10 := Lib.hid (keep_obj (al w10 (flowO f A10 c10)) (keep_obj hb10 HO9.out))
    have HG10 := Lib.hid (keep_obj (al w10 (flowO f A10 c10)) (keep_obj hb10 HG9.out))
    have HD10 : Hid ((w10.alloc (flowO f A10 c10)).heap[w10.heap.size]? = some (flowO f A10 c10)) := Lib.hid (heap_alloc_new w10 _)
    have HS10 := Lib.hid (blw (blw HS9.out hb10) (al w10 (flowO f A10 c10)))
    have HC10 := Lib.hid (hc10.below (al w10 (flowO f A10 c10)))
    have HE10 := Lib.hid hL10
    have HLT : Hid (cb < w9.heap.size ∧ w9.heap.size ≤ w10.heap.size) := Lib.hid ⟨HSZ9.out, hb10.size⟩
    clear hb10 hc10 hL10 p0 p1 p2 p3 hp HB9 HO9 HG9 HS9 HSZ9
    go_wp2_with fail
    have HC7' : Hid (Mst w6 (w10.alloc (flowO f A10 c10)) f A7 c7 L7 cb w6.heap.size w7.heap.size (w10.alloc (flowO f A10 c10))) := Lib.hid (Mst.start HC7.out (Nat.le_refl _) (Nat.le_refl _) HS10.out HG10.out (blw HS7.out HS10.out))
    have HL7 : Hid (L7.length = f.tasks.length) := Lib.hid (by rw [← HE7.out, List.length_map])
    clear HC7 HG10 HS10
    generalize hwd : w10.alloc (flowO f A10 c10) = wd at HB10 HO10 HD10 HC10 HC7' ⊢
    have HWD := Lib.hid hwd
    clear hwd
    go_loopw [11] (fun i wr => ∃ k : Nat, k ≤ f.tasks.length ∧ i = .int .i64 k ∧ Hid (Mst w6 wd f A7 c7 L7 cb w6.heap.size w7.heap.size wr)) (fun i _ => f.tasks.length - (intOf i).toNat)
    case atStart => exact ⟨0, Nat.zero_le _, rfl, by have e := HWD.out; unfold flowO at e; rw [e]; exact HC7'⟩
    case round =>
      obtain ⟨k, hk, rfl, HM⟩ := hrel
      clear HC7'
      obtain ⟨q0, q1, q2, q3, hq⟩ := flowO_cells HM.out.fl
      by_cases hlt : k < f.tasks.length
      · obtain ⟨⟨x, A9, c9⟩, hx⟩ : ∃ x, L7[k]? = some x := ⟨_, List.getElem?_eq_getElem (by rw [HL7.out]; exact hlt)⟩
        have hxm : x ∈ f.tasks := by
          have := List.mem_map_of_mem (f := Prod.fst) (List.mem_of_getElem? hx)
          rw [HE7.out] at this
          exact this
        have hxa := HA5.out x hxm
        have HX := Lib.hid hx
        clear hx hxm
        go_wp2_with fail
        clear q0 q1 q2 q3 hq
        go_loopw [12] (fun i wq => ∃ j : Nat, j ≤ x.after.length ∧ i = .int .i64 j ∧ Hid (Mst w6 wd f A7 c7 L7 cb w6.heap.size w7.heap.size wq)) (fun i _ => x.after.length - (intOf i).toNat)
        case atStart => exact ⟨0, Nat.zero_le _, rfl, HM⟩
        case round =>
          obtain ⟨j, hj, rfl, HM2⟩ := hrel
          clear HM
          obtain ⟨q0, q1, q2, q3, hq⟩ := flowO_cells HM2.out.fl
          obtain ⟨g, eg, hgl, ⟨u, hu⟩, hfz, h5, hsetN⟩ := HM2.out.setN HX.out
          dsimp only at h5
          have HSN := Lib.hid (hsetN (.string ⟨#[]⟩))
          clear hsetN
          by_cases hlt2 : j < x.after.length
          · obtain ⟨g2, eg2, hgl2, ⟨u2, hu2⟩, hfz2, hsetI⟩ := HM2.out.setI HX.out hlt2
            have HSI := Lib.hid (hsetI (.int .i64 (-7)))
            dsimp only at eg2
            clear hsetI HSN hu hfz
            rw [eg] at q3
            rw [eg2] at h5
            go_wp2
            go_roundw
            case rel => exact ⟨j + 1, by omega, by go_num, HSI⟩
            case measure => simp [intOf]; omega
          · obtain rfl : j = x.after.length := by omega
            rw [eg] at q3
            go_wp2
            go_roundw
            case rel => exact ⟨k + 1, by omega, by go_num, HSN⟩
            case measure => simp [intOf]; omega
      · obtain rfl : k = f.tasks.length := by omega
        have hlt9 := HLT.out
        have hecb := ECB.out
        have hkeep : ∀ b, cb < b → wr.heap[b]? = wd.heap[b]? := fun b hb => HM.out.keep b (by omega) (by omega)
        have HTD := Lib.hid ((HC10.out.keepHi fun b hb => hkeep b (by omega)).tasks HE10.out HNM.out)
        have HOD := (hkeep w10.heap.size (by omega)).trans HD10.out
        have HOF := keep_obj HM.out.bel HO6.out
        have HBF := Lib.hid (blw HB6.out HM.out.bel)
        clear hkeep hlt9 hecb HLT ECB
        obtain ⟨p0, p1, p2, p3, hp⟩ := flowO_cells HOF
        obtain ⟨r0, r1, r2, r3, hr⟩ := flowO_cells HOD
        clear HOF HOD
        go_wp2_with fail
        refine (C7.out _ A10 c10 HBF.out HTD.out).mono ?_
        rintro e w11 ⟨rfl, hb11⟩
        have HB11 := Lib.hid (blw HBF.out hb11)
        clear p0 p1 p2 p3 hp r0 r1 r2 r3 hr q0 q1 q2 q3 hq
        go_wp2_with fail
        refine (HK.out _ HB11.out).mono ?_
        rintro e w12 ⟨rfl, hb12⟩
        go_wp2
        go_ret
        exact ⟨rfl, blw HB11.out hb12⟩

set_option maxHeartbeats 3200000 in
theorem walk_FlowFinds (w : World) (hT : Tb3 w) (f : FlowD) (A : Option Addr) (c : Nat) (h : Tasks w A c f.tasks) (hs : Small f) (s : ByteArray) (hss : s.size ≤ maxLen) :
    Calls Tryz.prog 7 #[.agg #[.string (sb f.name), .int .i64 f.deadline, .int .i64 f.priority, .slice A f.tasks.length c], .string s] w fun e w' => e = .returned (.bool true) ∧ Below w.heap.size w w' := by
  obtain ⟨m, rfl⟩ : ∃ m, s = sb m := ⟨s.data.toList, (sb_data s).symm⟩
  clear hss
  have hk := fun W (hW : Below w.heap.size w W) => known_any W (hT.below hW)
  have hl := fun W (hW : Below w.heap.size w W) => long_any f A c W (h.below hW) hs
  have HK := Lib.hid hk
  cases hlong : longD f
  · rw [hlong] at hl
    obtain ⟨hn, hz⟩ := longD_no hlong
    obtain ⟨hfn, htn⟩ := longD_names hlong
    have hx1 := findI_low f.tasks m
    have C1 := fun W (hW : Below w.heap.size w W) => find_flow f A c W (h.below hW) m _ rfl
    have C2 := fun W (hW : Below w.heap.size w W) => rfind_any f A c W (h.below hW) m
    have C6 := fun W B d (hW : Below w.heap.size w W) (b : Tasks W B d f.tasks) => same_flow f f W B A d c b (h.below hW)
    have C7 := fun W B d (hW : Below w.heap.size w W) (b : Tasks W B d f.tasks) => rsame_flow f f W B A d c b (h.below hW)
    rw [eqv_yes rfl] at C6 C7
    have key := fun i0 C1 C2 => finds_core w f A c (sb m) i0 hn (fun t ht => (htn t ht).2) (Lib.hid fun W hW => h.below hW) (Lib.hid h.nm) HK (Lib.hid hl) C1 C2
      (Lib.hid fun W hW => after_any f A c W (h.below hW) (by omega) (fun t ht => by have := (htn t ht).2; omega)) (Lib.hid fun W hW => rafter_any f A c W (h.below hW) (by omega))
      (Lib.hid fun W hW => copy_any f A c W (h.below hW) (by omega) (fun t ht => by have := (htn t ht).2; omega)) (Lib.hid C6) (Lib.hid C7)
    have hmx : (if findI f.tasks m < 0 then (0 : Int) else findI f.tasks m) = max (findI f.tasks m) 0 := by
      split <;> omega
    simp only [hmx] at C1
    exact key _ (Lib.hid C1) (Lib.hid C2)
  · rw [hlong] at hl
    have HL := Lib.hid hl
    clear hl hk
    go_enter Tryz.func7, Tryz.ntmps7
    go_wp2_with fail
    refine (HL.out _ (al _ _)).mono ?_
    rintro e w1 ⟨rfl, hb1⟩
    have HB1 := Lib.hid (blw (al w (flowO f A c)) hb1)
    clear hb1
    go_wp2_with fail
    refine (HK.out _ HB1.out).mono ?_
    rintro e w2 ⟨rfl, hb2⟩
    go_wp2
    go_ret
    exact ⟨rfl, blw HB1.out hb2⟩

namespace flowFinds
theorem own : ownKnob Tryz.prog.godebug = none := by kernel_rfl
theorem laidOut : laidOutB Tryz.prog = true := by kernel_rfl
set_option maxRecDepth 100000 in
theorem lifted (os : Os) (started : os.Started) (H : Type) (enc : TypeId × Value → H) :
    ReturnsInHanded {} Tryz.checked os 7 .any (fun w args => (Rows.flowFindsSpec.pre enc Tryz.prog Tryz.f7 [] false w args ∧ laidMetH Tryz.prog laid7 w) ∧ sizedMet enc Tryz.prog Tryz.f7 (OpenSpec.ofChange Rows.flowFindsSpec) false w args)
      (Rows.flowFindsSpec.post enc Tryz.prog Tryz.f7 false true false false) := by
  refine returnsInHanded_of_change_and (C := Tryz.checked) (X := fun w _ => laidMetH Tryz.prog laid7 w) (fun _ _ _ hh h => h.of_heap hh) own started (by kernel_rfl) Tryz.func7
    (ChangeSpec.witness_shaped (enc := enc) (C := Tryz.checked) (os := os) (X := fun w _ => laidMetH Tryz.prog laid7 w) false (World.laidAll Tryz.prog os laid7) #[.agg #[.string ByteArray.empty, .int .i64 0, .int .i64 0, .slice none 0 0], .string ByteArray.empty] 8 (World.laidAll_os _ _ _)
      (World.shaped_of_ZipB (by kernel_rfl) (by kernel_rfl)) (by kernel_rfl) (by kernel_rfl) (by kernel_rfl)
      (by rw [MakeChecks.laidMetH_plain _ _ _ (by kernel_rfl)]; exact laidMet_laidAll _ (by kernel_rfl) (by kernel_rfl))) ?_
  intro W base args ds gs before hval0 hW _ hsz hL _
  have hval : ∀ (j : Nat) t v, Tryz.f7.params[j]? = some t → args[j]? = some v → Value.okWide Tryz.prog W .any base t v := hval0
  have hW' := hW
  obtain ⟨p, q, hA0, hV, rfl, _, _⟩ := hW
  have hA : DataW.TrodAll enc Tryz.prog W 0 (fun _ => true) true Tryz.f7.params.toList args.toList ds p := hA0
  rw [Tryz.params7] at hA hval
  obtain ⟨v0, vs0, d0, ds0, p0, q0, hargs, rfl, rfl, h0, r0⟩ := trodAll_cons hA
  obtain ⟨v1, vs1, d1, ds1, p1, q1, rfl, rfl, rfl, h1, r1⟩ := trodAll_cons r0
  obtain ⟨rfl, rfl, rfl⟩ := trodAll_nil r1
  obtain rfl : args = #[v0, v1] := by cases args; simp_all
  obtain ⟨rfl, rfl⟩ := trodVars_none hV
  have k0 := h0
  have lt0 : ∀ x ∈ p0, x.block < W.heap.size := by obtain ⟨m, hm⟩ := k0; exact DataW.trod_lt m _ _ _ hm
  obtain ⟨cs0, e0, _⟩ := okWide_struct Tryz.underlying25 (hval 0 25 v0 rfl rfl)
  obtain ⟨fuel0, hf0⟩ := h0
  rw [show v0.cells.toList = cs0.toList from by rw [e0]; rfl] at hf0
  obtain ⟨z0, A0, c0, hcs0, w0, s0⟩ := flow_arg hf0
  obtain rfl : cs0 = #[.string (sb z0.name), .int .i64 z0.deadline, .int .i64 z0.priority, .slice A0 z0.tasks.length c0] := by rw [← Array.toArray_toList (xs := cs0), hcs0]
  subst e0
  have s0 := s0 (weights_at hsz (j := 0) (t := 25) rfl rfl)
  clear hf0 hcs0
  obtain ⟨a1, rfl, rfl, rfl, w1⟩ := open_string Tryz.underlying9 (hval 1 9 v1 rfl rfl) h1
  clear hA0 hval0
  rw [MakeChecks.laidMetH_plain _ _ _ (by kernel_rfl)] at hL
  refine (walk_FlowFinds W (tabs_of hL) z0 A0 c0 w0 s0 a1 w1).mono fun e W' ⟨he, bel⟩ => ?_
  subst he
  exact ⟨_, rfl, _, _, _, [], _, [], hW', trodAll_mk1 (shut_bool Tryz.underlying4 _), (trodAll_cons_mk (Below.trod laidOut (by kernel_rfl) (of_decide_eq_true (by kernel_rfl)) k0 bel lt0) (trodAll_cons_mk (shut_string Tryz.underlying9 w1) trodAll_mk0)), rfl, bel.frame _, fun h => by cases h⟩
theorem said : Rows.FlowFindsSaid :=
  OpenClaim.holds_of_wide 7 Tryz.f7 rfl rfl rfl rfl rfl rfl rfl ⟨rfl, rfl, rfl, rfl, rfl⟩ rfl rfl rfl rfl rfl (by kernel_rfl) Tryz.func7 (by kernel_rfl)
    (of_decide_eq_true (by kernel_rfl)) (by unfold Func.isWrapper; first | (rw [if_pos (by decide +kernel)]; kernel_rfl) | (rw [if_neg (by decide +kernel)]; exact ⟨rfl, rfl⟩))
    (fun os started H enc _ => lifted os started H enc)
theorem plain (f : FuncId) (fn : Func) (hf : Tryz.pinned.checked.prog.funcNamed "timekeeper/timekeeperlaw06.FlowFinds" = some f) (hfn : Tryz.pinned.checked.prog.funcs[f]? = some fn) :
    false = Tryz.pinned.checked.prog.looks [] ∧ ∀ (j : Nat) t, fn.params[j]? = some t → Tryz.pinned.checked.prog.wantsStandIn t = false := by
  obtain rfl : f = 7 := Option.some.inj ((show Tryz.prog.funcNamed "timekeeper/timekeeperlaw06.FlowFinds" = some 7 by kernel_rfl).symm.trans hf) |>.symm
  obtain rfl : fn = Tryz.f7 := (Option.some.inj (Tryz.func7.symm.trans hfn)).symm
  refine ⟨by kernel_rfl, fun j t ht => ?_⟩
  rw [Tryz.params7] at ht
  have hm : t ∈ [25, 9] := by simpa using Array.mem_of_getElem? ht
  have hall : ([25, 9].all fun u => !Tryz.prog.wantsStandIn u) = true := by kernel_rfl
  exact (show Tryz.prog.wantsStandIn t = false by simpa using List.all_eq_true.1 hall t hm)
theorem proved : Rows.FlowFindsCardSaid :=
  Claim7.holds_tied_plain_at .later [] _ _ _ _ said (fun _ h => by cases h) (by kernel_rfl) (fun _ h => by cases h) flowFinds_row_tie rfl ⟨rfl, rfl⟩ (by kernel_rfl) rfl plain (by kernel_rfl)
#print axioms proved
end flowFinds
end Go.Proofs.YtdcfakbelnpljaaGreatDoor
