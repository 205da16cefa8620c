/- StepsAreas: for any steps and any three ints, the law returns true, and all read afterwards as before. No condition. -/
import Derived.Test.YtmlkomcjbcolhaaRows
import Derived.Test.YtmlkomcjbcolhaaStpQ
import Derived.Test.YtmlkomcjbcolhaaStpL
import Derived.Test.YtmlkomcjbcolhaaStpArg
import Derived.WalkKit
import Derived.ProofKit
import Derived.OpenShut
import Derived.ShutString
import Derived.ChangeOld
import Derived.Below
namespace Go.Proofs.Ytmlkomcjbcolhaa
open Go.ChangeShapes Go.WideShapes Go.ChangeAt Go.RowKit
open Stp (blw al kp Stp.below known9_any check_any area_any areaV area_is sumV sum_split sum_self sum_bd ext_is IsMin IsMax end_yes least_any most_any)
set_option linter.unusedVariables false

structure AreaY (l : List StepD) (a b c : Int) (x y z : Int) : Prop where
  err : durE l a c = 0
  sum : z = x + y
  bx : 0 ≤ x ∧ x ≤ 10995116277750000
  by_ : 0 ≤ y ∧ y ≤ 10995116277750000
  ac : a ≤ c
  ta : 0 ≤ a ∧ a ≤ 1099511627775
  tc : 0 ≤ c ∧ c ≤ 1099511627775
  zero : a = c → z = 0
  low : a < c → endE l a c = 0 ∧ (0 ≤ minV l a c ∧ minV l a c ≤ 10000) ∧ (0 ≤ maxV l a c ∧ maxV l a c ≤ 10000) ∧ minV l a c * (c - a) ≤ z ∧ z ≤ maxV l a c * (c - a)
theorem area_bd {l : List StepD} {a b : Int} (h : durE l a b = 0) : 0 ≤ areaV l a b ∧ areaV l a b ≤ 10995116277750000 := by
  obtain ⟨hp, hi, hj, hab⟩ := dur_yes h
  have ha := Clk.isT_bd hi; have hb := Clk.isT_bd hj
  have := sum_bd (f := valF 0 l) (lo := 0) (hi := 10000) hab (fun t k1 k2 => hp.bd (by omega))
  rw [← area_is h] at this
  omega
theorem area_yes {l : List StepD} {a b c : Int} (h : durE l a b = 0) (k : durE l b c = 0) : AreaY l a b c (areaV l a b) (areaV l b c) (areaV l a c) := by
  obtain ⟨hp, hi, hj, hab⟩ := dur_yes h
  obtain ⟨_, hj', hk, hbc⟩ := dur_yes k
  have ha := Clk.isT_bd hi; have hc := Clk.isT_bd hk
  have he : durE l a c = 0 := by unfold durE; rw [if_pos ⟨chkD_prof.2 hp, hi, hk, by omega⟩]
  refine ⟨he, by rw [area_is h, area_is k, area_is he]; exact sum_split hab hbc, area_bd h, area_bd k, by omega, ha, hc, fun e => ?_, fun hlt => ?_⟩
  · rw [area_is he, e, sum_self]
  · have hee : endE l a c = 0 := by unfold endE; rw [if_pos ⟨he, hlt⟩]
    obtain ⟨⟨m1, t, m2, m3, m4⟩, ⟨M1, u, M2, M3, M4⟩⟩ := ext_is hee
    have hbd := sum_bd (f := valF 0 l) (a := a) (b := c) (lo := minV l a c) (hi := maxV l a c) (by omega) (fun t k1 k2 => ⟨m1 t k1 k2, M1 t k1 k2⟩)
    rw [← area_is he] at hbd
    exact ⟨hee, by rw [← m4]; exact hp.bd (by omega), by rw [← M4]; exact hp.bd (by omega), hbd.1, hbd.2⟩

set_option maxRecDepth 100000 in
set_option maxHeartbeats 3200000 in
theorem walk_StepsAreas (w : World) (A : Option Addr) (c0 : Nat) (l : List StepD) (h : Stp.Stp w A c0 l) (a b c : Int) :
    Calls Try.prog 9 #[.slice A l.length c0, .int .i64 a, .int .i64 b, .int .i64 c] w fun e w' => e = .returned (.bool true) ∧ Below w.heap.size w w' := by
  have HK := Lib.hid known9_any
  obtain ⟨n, hn⟩ : ∃ n, l.length = n := ⟨_, rfl⟩
  have hnl : n ≤ 9223372036854775807 := by rw [← hn]; exact h.lenI
  rw [hn]
  by_cases hlong : 60 < n
  · clear h hn
    go_enter Try.func9, Try.ntmps9
    go_wp2_with fail
    refine (HK.out _).mono ?_
    rintro e w' ⟨rfl, hw⟩
    go_wp2
    go_ret
    exact ⟨rfl, hw⟩
  have HC := Lib.hid (check_any l A n c0 hn w h)
  rcases chkE_or l with ⟨hc, hp⟩ | ⟨hc, hp⟩
  case inr =>
    rw [hc] at HC
    clear h hn hc hp
    go_enter Try.func9, Try.ntmps9
    go_wp2_with fail
    refine HC.out.mono ?_
    rintro e w1 ⟨rfl, hb1⟩
    go_wp2_with fail
    refine (HK.out _).mono ?_
    rintro e w' ⟨rfl, hw⟩
    go_wp2
    go_ret
    exact ⟨rfl, blw hb1 hw⟩
  rw [hc] at HC
  have HA1 := Lib.hid fun W (hW : Below w.heap.size w W) => area_any l a b A n c0 hn (by omega) W (h.below hW)
  have HA2 := Lib.hid fun W (hW : Below w.heap.size w W) => area_any l b c A n c0 hn (by omega) W (h.below hW)
  have HA3 := Lib.hid fun W (hW : Below w.heap.size w W) => area_any l a c A n c0 hn (by omega) W (h.below hW)
  have HL := Lib.hid fun W (hW : Below w.heap.size w W) => least_any l a c A n c0 hn W (h.below hW)
  have HM := Lib.hid fun W (hW : Below w.heap.size w W) => most_any l a c A n c0 hn W (h.below hW)
  obtain ⟨x, hx⟩ : ∃ x, areaV l a b = x := ⟨_, rfl⟩
  obtain ⟨y, hy⟩ : ∃ x, areaV l b c = x := ⟨_, rfl⟩
  obtain ⟨z, hz⟩ : ∃ x, areaV l a c = x := ⟨_, rfl⟩
  obtain ⟨e1, he1⟩ : ∃ x, durE l a b = x := ⟨_, rfl⟩
  obtain ⟨e2, he2⟩ : ∃ x, durE l b c = x := ⟨_, rfl⟩
  obtain ⟨e3, he3⟩ : ∃ x, durE l a c = x := ⟨_, rfl⟩
  rw [hx, he1] at HA1
  rw [hy, he2] at HA2
  rw [hz, he3] at HA3
  by_cases h1 : e1 = 0
  case neg =>
    have hb1 : (e1 != 0) = true := by rw [bne_iff_ne]; exact h1
    clear h hn hc hp hx hy hz he1 he2 he3 h1 HL HM
    go_enter Try.func9, Try.ntmps9
    go_wp2_with fail
    refine HC.out.mono ?_
    rintro e w1 ⟨rfl, hb1⟩
    have HW1 := Lib.hid hb1
    clear hb1
    go_wp2_with fail
    refine (HA1.out _ HW1.out).mono ?_
    rintro e w2 ⟨rfl, hb2⟩
    have HW2 := Lib.hid (blw HW1.out hb2)
    clear hb2
    go_wp2_with fail
    refine (HA2.out _ HW2.out).mono ?_
    rintro e w3 ⟨rfl, hb3⟩
    have HW3 := Lib.hid (blw HW2.out hb3)
    clear hb3
    go_wp2_with fail
    refine (HA3.out _ HW3.out).mono ?_
    rintro e w4 ⟨rfl, hb4⟩
    have HW4 := Lib.hid (blw HW3.out hb4)
    clear hb4
    go_wp2_with fail
    refine (HK.out _).mono ?_
    rintro e w' ⟨rfl, hw⟩
    go_wp2
    go_ret
    exact ⟨rfl, blw HW4.out hw⟩
  subst h1
  by_cases h2 : e2 = 0
  case neg =>
    have hb2 : (e2 != 0) = true := by rw [bne_iff_ne]; exact h2
    clear h hn hc hp hx hy hz he1 he2 he3 h2 HL HM
    go_enter Try.func9, Try.ntmps9
    go_wp2_with fail
    refine HC.out.mono ?_
    rintro e w1 ⟨rfl, hb1⟩
    have HW1 := Lib.hid hb1
    clear hb1
    go_wp2_with fail
    refine (HA1.out _ HW1.out).mono ?_
    rintro e w2 ⟨rfl, hb2⟩
    have HW2 := Lib.hid (blw HW1.out hb2)
    clear hb2
    go_wp2_with fail
    refine (HA2.out _ HW2.out).mono ?_
    rintro e w3 ⟨rfl, hb3⟩
    have HW3 := Lib.hid (blw HW2.out hb3)
    clear hb3
    go_wp2_with fail
    refine (HA3.out _ HW3.out).mono ?_
    rintro e w4 ⟨rfl, hb4⟩
    have HW4 := Lib.hid (blw HW3.out hb4)
    clear hb4
    go_wp2_with fail
    refine (HK.out _).mono ?_
    rintro e w' ⟨rfl, hw⟩
    go_wp2
    go_ret
    exact ⟨rfl, blw HW4.out hw⟩
  subst h2
  have hY := area_yes he1 he2
  rw [hx, hy, hz] at hY
  obtain rfl : e3 = 0 := by rw [← he3]; exact hY.err
  have hxy := hY.sum
  have hbx := hY.bx; have hby := hY.by_
  have hw1 : IntKind.i64.wrap (x + y) = x + y := IntWalk.i64_in _ (by omega)
  have hzb : (z != x + y) = false := by rw [hxy]; simp
  have hca := hY.ac
  have hta := hY.ta; have htc := hY.tc
  by_cases hac : a = c
  · have hz0 : z = 0 := hY.zero hac
    have hacb : (a == c) = true := by rw [beq_iff_eq]; exact hac
    have hz0b : (z == 0) = true := by rw [beq_iff_eq]; exact hz0
    clear h hn hc hp hx hy hz he1 he2 he3 HL HM hY hxy hz0 hac
    go_enter Try.func9, Try.ntmps9
    go_wp2_with fail
    refine HC.out.mono ?_
    rintro e w1 ⟨rfl, hb1⟩
    have HW1 := Lib.hid hb1
    clear hb1
    go_wp2_with fail
    refine (HA1.out _ HW1.out).mono ?_
    rintro e w2 ⟨rfl, hb2⟩
    have HW2 := Lib.hid (blw HW1.out hb2)
    clear hb2
    go_wp2_with fail
    refine (HA2.out _ HW2.out).mono ?_
    rintro e w3 ⟨rfl, hb3⟩
    have HW3 := Lib.hid (blw HW2.out hb3)
    clear hb3
    go_wp2_with fail
    refine (HA3.out _ HW3.out).mono ?_
    rintro e w4 ⟨rfl, hb4⟩
    have HW4 := Lib.hid (blw HW3.out hb4)
    clear hb4
    go_wp2_with fail
    refine (HK.out _).mono ?_
    rintro e w' ⟨rfl, hw⟩
    go_wp2
    go_ret
    exact ⟨rfl, blw HW4.out hw⟩
  · obtain ⟨hee, hml, hmh, hlo, hhi⟩ := hY.low (by omega)
    have hacb : (a == c) = false := by rw [beq_eq_false_iff_ne]; exact hac
    rw [hee] at HL HM
    obtain ⟨lo, hlo'⟩ : ∃ v, minV l a c = v := ⟨_, rfl⟩
    obtain ⟨hg, hhi'⟩ : ∃ v, maxV l a c = v := ⟨_, rfl⟩
    rw [hlo'] at HL hml hlo
    rw [hhi'] at HM hmh hhi
    have hw2 : IntKind.i64.wrap (c - a) = c - a := IntWalk.i64_in _ (by omega)
    have k1 := Stp.mul_bd hml (y := c - a) (by omega)
    have k2 := Stp.mul_bd hmh (y := c - a) (by omega)
    have hw3 : IntKind.i64.wrap (lo * (c - a)) = lo * (c - a) := IntWalk.i64_in _ (by omega)
    have hw4 : IntKind.i64.wrap (hg * (c - a)) = hg * (c - a) := IntWalk.i64_in _ (by omega)
    clear h hn hc hp hx hy hz he1 he2 he3 hY hxy hac hee hlo' hhi' k1 k2 hml hmh
    go_enter Try.func9, Try.ntmps9
    go_wp2_with fail
    refine HC.out.mono ?_
    rintro e w1 ⟨rfl, hb1⟩
    have HW1 := Lib.hid hb1
    clear hb1
    go_wp2_with fail
    refine (HA1.out _ HW1.out).mono ?_
    rintro e w2 ⟨rfl, hb2⟩
    have HW2 := Lib.hid (blw HW1.out hb2)
    clear hb2
    go_wp2_with fail
    refine (HA2.out _ HW2.out).mono ?_
    rintro e w3 ⟨rfl, hb3⟩
    have HW3 := Lib.hid (blw HW2.out hb3)
    clear hb3
    go_wp2_with fail
    refine (HA3.out _ HW3.out).mono ?_
    rintro e w4 ⟨rfl, hb4⟩
    have HW4 := Lib.hid (blw HW3.out hb4)
    clear hb4
    go_wp2_with fail
    refine (HL.out _ HW4.out).mono ?_
    rintro e w5 ⟨rfl, hb5⟩
    have HW5 := Lib.hid (blw HW4.out hb5)
    clear hb5
    go_wp2_with fail
    refine (HM.out _ HW5.out).mono ?_
    rintro e w6 ⟨rfl, hb6⟩
    have HW6 := Lib.hid (blw HW5.out hb6)
    clear hb6
    go_wp2_with fail
    refine (HK.out _).mono ?_
    rintro e w' ⟨rfl, hw⟩
    go_wp2
    go_ret
    exact ⟨rfl, blw HW6.out hw⟩

namespace stepsAreas
open Go.ChangeShapes Go.WideShapes Go.ChangeAt Go.RowKit
theorem own : ownKnob Try.prog.godebug = none := by kernel_rfl
theorem laidOut : laidOutB Try.prog = true := by kernel_rfl

set_option maxRecDepth 100000 in
theorem lifted (os : Os) (started : os.Started) (H : Type) (enc : TypeId × Value → H) :
    ReturnsInHanded {} Try.checked os 9 .any (Rows.stepsAreasSpec.pre6 enc Try.prog Try.f9 Rows.stepsAreasRow.domain false) (Rows.stepsAreasSpec.post enc Try.prog Try.f9 false true false false) := by
  refine returnsInHanded_of_change (C := Try.checked) own started (by kernel_rfl) Try.func9
    (ChangeSpec.witness6 (enc := enc) (C := Try.checked) false ⟨#[], #[.slice none 0 0, .int .i64 0, .int .i64 0, .int .i64 0], []⟩ 8 (by kernel_rfl) (by kernel_rfl) (by kernel_rfl) (by kernel_rfl)) ?_
  intro W base args ds gs before hval0 hW hcnd _
  have hval : ∀ (j : Nat) t v, Try.f9.params[j]? = some t → args[j]? = some v → Value.okWide Try.prog W .any base t v := hval0
  have hW' := hW
  obtain ⟨p, q, hA0, hV, rfl, hfz, hnd⟩ := hW
  have hA : DataW.TrodAll enc Try.prog W 0 (fun _ => true) true Try.f9.params.toList args.toList ds p := hA0
  rw [Try.params9] at hA hval
  obtain ⟨v0, vs0, d0, ds0, p0, q0, hargs, rfl, rfl, h0, r0⟩ := trodAll_cons hA
  obtain ⟨v1, vs1, d1, ds1, p1, q1, rfl, rfl, rfl, h1, r1⟩ := trodAll_cons r0
  obtain ⟨v2, vs2, d2, ds2, p2, q2, rfl, rfl, rfl, h2, r2⟩ := trodAll_cons r1
  obtain ⟨v3, vs3, d3, ds3, p3, q3, rfl, rfl, rfl, h3, r3⟩ := trodAll_cons r2
  obtain ⟨rfl, rfl, rfl⟩ := trodAll_nil r3
  obtain rfl : args = #[v0, v1, v2, v3] := by cases args; simp_all
  obtain ⟨rfl, rfl⟩ := trodVars_none hV
  have k0 := h0
  have lt0 : ∀ x ∈ p0, x.block < W.heap.size := by obtain ⟨m, hm⟩ := k0; exact DataW.trod_lt m _ _ _ hm
  obtain ⟨A0, l0, c0, e0⟩ := okWide_slice Try.underlying22 (hval 0 22 v0 rfl rfl)
  obtain ⟨fuel0, hf0⟩ := h0
  rw [show v0.cells.toList = [v0] from by rw [e0]; rfl] at hf0
  clear e0 A0 l0 c0
  obtain ⟨A0, c0, z0, rfl, w0⟩ := Stp.steps_arg hf0
  obtain ⟨a1, rfl, rfl, rfl, w1⟩ := open_int Try.underlying3 (hval 1 3 v1 rfl rfl) h1
  obtain ⟨a2, rfl, rfl, rfl, w2⟩ := open_int Try.underlying3 (hval 2 3 v2 rfl rfl) h2
  obtain ⟨a3, rfl, rfl, rfl, w3⟩ := open_int Try.underlying3 (hval 3 3 v3 rfl rfl) h3
  clear hA0 hval0
  refine (walk_StepsAreas W A0 c0 z0 w0 a1 a2 a3).mono fun e W' ⟨he, bel⟩ => ?_
  subst he
  exact ⟨_, rfl, _, _, _, [], _, [], hW', trodAll_mk1 (shut_bool Try.underlying4 _), (trodAll_cons_mk (Below.trod laidOut (by kernel_rfl) (of_decide_eq_true (by kernel_rfl)) k0 bel lt0) (trodAll_cons_mk (shut_int Try.underlying3 w1) (trodAll_cons_mk (shut_int Try.underlying3 w2) (trodAll_cons_mk (shut_int Try.underlying3 w3) trodAll_mk0)))), rfl, bel.frame _, fun h => by cases h⟩

theorem over : Rows.stepsAreasRow.holds Try.pinned (OpenSpec.ofChange Rows.stepsAreasSpec) :=
  OpenClaim.holds_of_wide 9 Try.f9 rfl rfl rfl rfl rfl rfl rfl ⟨rfl, rfl, rfl, rfl, rfl⟩ rfl rfl rfl rfl rfl (by kernel_rfl) Try.func9 (by kernel_rfl)
    (of_decide_eq_true (by kernel_rfl)) (by unfold Func.isWrapper; first | (rw [if_pos (by decide +kernel)]; kernel_rfl) | (rw [if_neg (by decide +kernel)]; exact ⟨rfl, rfl⟩))
    (fun os started H enc _ => lifted os started H enc)

theorem proved : Rows.StepsAreasSaid := over
#print axioms proved
end stepsAreas
end Go.Proofs.Ytmlkomcjbcolhaa

