/- StepsBack: for any steps and any four ints, the law returns true, and all read afterwards as before. No condition. -/
import Derived.Test.YtmlkomcjbcolhaaRows
import Derived.Test.YtmlkomcjbcolhaaStpL
import Derived.Test.YtmlkomcjbcolhaaStpArg
import Derived.WalkKit
import Derived.ProofKit
import Derived.OpenShut
import Derived.ShutString
import Derived.ChangeOld
import Derived.Below
namespace Go.Proofs.Ytmlkomcjbcolhaa
open Go.ChangeShapes Go.WideShapes Go.ChangeAt Go.RowKit
open Stp (blw al kp Stp.below addE addL add_any rsame_any known9_any sameB sameB_iff RetS add_back add_join add_yes addE_iff)
set_option linter.unusedVariables false

set_option maxRecDepth 100000 in
set_option maxHeartbeats 3200000 in
theorem walk_StepsBack (w : World) (A : Option Addr) (c0 : Nat) (l : List StepD) (h : Stp.Stp w A c0 l) (a b c k : Int) :
    Calls Try.prog 8 #[.slice A l.length c0, .int .i64 a, .int .i64 b, .int .i64 c, .int .i64 k] w fun e w' => e = .returned (.bool true) ∧ Below w.heap.size w w' := by
  have HK := Lib.hid known9_any
  obtain ⟨n, hn⟩ : ∃ n, l.length = n := ⟨_, rfl⟩
  have hnl : n ≤ 9223372036854775807 := by rw [← hn]; exact h.lenI
  rw [hn]
  by_cases hlong : 60 < n
  · clear h hn
    go_enter Try.func8, Try.ntmps8
    go_wp2_with fail
    refine (HK.out _).mono ?_
    rintro e w' ⟨rfl, hw⟩
    go_wp2
    go_ret
    exact ⟨rfl, hw⟩
  have hn60 : l.length ≤ 900 := by omega
  have HA := Lib.hid fun W (hW : Below w.heap.size w W) (a b k : Int) => add_any l a b k A n c0 hn (by omega) W (h.below hW)
  unfold RetS at HA
  obtain ⟨e1, he1⟩ : ∃ e, addE l a b k = e := ⟨_, rfl⟩
  obtain ⟨m, hm⟩ : ∃ m, addL l a b k = m := ⟨_, rfl⟩
  have HA1 := Lib.hid fun W (hW : Below w.heap.size w W) => HA.out W hW a b k
  rw [he1, hm] at HA1
  by_cases h1 : e1 = 0
  case neg =>
    have hb1 : (e1 != 0) = true := by rw [bne_iff_ne]; exact h1
    clear h hn HA he1 hm h1 hn60
    go_enter Try.func8, Try.ntmps8
    go_wp2_with fail
    refine (HA1.out _ (Below.refl _ _)).mono ?_
    rintro e w1 ⟨A1, c1, rfl, hs1, hb1⟩
    go_wp2_with fail
    refine (HK.out _).mono ?_
    rintro e w' ⟨rfl, hw⟩
    go_wp2
    go_ret
    exact ⟨rfl, blw hb1 hw⟩
  subst h1
  have hy := addE_iff.1 he1
  have hk := hy.kk
  obtain ⟨hbe, hbl⟩ := add_back he1 hn60
  have hmn : m.length ≤ 64 := by rw [← hm]; have := (add_yes he1 (by omega)).len; omega
  rw [hm] at hbe hbl
  obtain ⟨mn, hmn2⟩ : ∃ mn, m.length = mn := ⟨_, rfl⟩
  have HB := Lib.hid fun (B : Option Addr) (d : Nat) W (hs : Stp.Stp W B d m) (a b k : Int) => add_any m a b k B mn d hmn2 (by omega) W hs
  unfold RetS at HB
  have HB1 := Lib.hid fun (B : Option Addr) (d : Nat) W (hs : Stp.Stp W B d m) => HB.out B d W hs a b (-k)
  rw [hbe, hbl, hn] at HB1
  have HSM := Lib.hid fun (A B : Option Addr) (c d : Nat) (W : World) (hs : Stp.Stp W A c l) (hs' : Stp.Stp W B d l) => rsame_any l l A B n n c d hn hn W hs hs'
  rw [show sameB l l = true from sameB_iff.2 rfl] at HSM
  obtain ⟨e2, he2⟩ : ∃ e, addE m b c k = e := ⟨_, rfl⟩
  obtain ⟨x, hx⟩ : ∃ x, addL m b c k = x := ⟨_, rfl⟩
  have HB2 := Lib.hid fun (B : Option Addr) (d : Nat) W (hs : Stp.Stp W B d m) => HB.out B d W hs b c k
  rw [he2, hx] at HB2
  rw [hmn2] at HA1
  have H := Lib.hid fun W (hW : Below w.heap.size w W) => h.below hW
  have hw1 : IntKind.i64.wrap (-k) = -k := IntWalk.i64_in _ (by omega)
  by_cases h2 : e2 = 0
  case neg =>
    have hb2 : (e2 != 0) = true := by rw [bne_iff_ne]; exact h2
    clear h hn HA he1 hm hn60 hy hbe hbl hmn hmn2 HB he2 hx h2
    go_enter Try.func8, Try.ntmps8
    go_wp2_with fail
    refine (HA1.out _ (Below.refl _ _)).mono ?_
    rintro e w1 ⟨A1, c1, rfl, hs1, hb1⟩
    have HS1 := Lib.hid hs1; have HW1 := Lib.hid hb1
    clear hs1 hb1
    go_wp2_with fail
    refine (HB1.out _ _ _ HS1.out).mono ?_
    rintro e w2 ⟨A2, c2, rfl, hs2, hb2⟩
    have HS2 := Lib.hid hs2; have HW2 := Lib.hid (blw HW1.out hb2); have HS1b := Lib.hid (HS1.out.below hb2)
    clear hs2 hb2
    go_wp2_with fail
    refine (HSM.out _ _ _ _ _ HS2.out (H.out _ HW2.out)).mono ?_
    rintro e w3 ⟨rfl, hb3⟩
    have HW3 := Lib.hid (blw HW2.out hb3); have HS1c := Lib.hid (HS1b.out.below hb3)
    clear hb3
    go_wp2_with fail
    refine (HB2.out _ _ _ HS1c.out).mono ?_
    rintro e w4 ⟨A4, c4, rfl, hs4, hb4⟩
    have HW4 := Lib.hid (blw HW3.out hb4)
    clear hs4 hb4
    go_wp2_with fail
    refine (HK.out _).mono ?_
    rintro e w' ⟨rfl, hw⟩
    go_wp2
    go_ret
    exact ⟨rfl, blw HW4.out hw⟩
  subst h2
  obtain ⟨j1, j2, j3, j4, j5⟩ := add_join he1 hn60 (by rw [hm]; exact he2)
  rw [hm, hx] at j2 j5
  obtain ⟨p, hp⟩ : ∃ p, addL l b c k = p := ⟨_, rfl⟩
  rw [hp] at j4 j5
  have hpn : p.length ≤ 64 := by rw [← hp]; have := (add_yes j3 (by omega)).len; omega
  obtain ⟨pn, hpn2⟩ : ∃ pn, p.length = pn := ⟨_, rfl⟩
  obtain ⟨xn, hxn⟩ : ∃ xn, x.length = xn := ⟨_, rfl⟩
  have HC1 := Lib.hid fun W (hW : Below w.heap.size w W) => HA.out W hW a c k
  rw [j1, j2, hxn] at HC1
  have HC2 := Lib.hid fun W (hW : Below w.heap.size w W) => HA.out W hW b c k
  rw [j3, hp, hpn2] at HC2
  have HC3 := Lib.hid fun (B : Option Addr) (d : Nat) W (hs : Stp.Stp W B d p) => add_any p a b k B pn d hpn2 (by omega) W hs
  unfold RetS at HC3
  rw [j4, j5, hxn] at HC3
  rw [hxn] at HB2
  have HSX := Lib.hid fun (A B : Option Addr) (c d : Nat) (W : World) (hs : Stp.Stp W A c x) (hs' : Stp.Stp W B d x) => rsame_any x x A B xn xn c d hxn hxn W hs hs'
  rw [show sameB x x = true from sameB_iff.2 rfl] at HSX
  clear h hn HA he1 hm hn60 hy hbe hbl hmn hmn2 HB he2 hx j1 j2 j3 j4 j5 hp hpn hpn2 hxn
  go_enter Try.func8, Try.ntmps8
  go_wp2_with fail
  refine (HA1.out _ (Below.refl _ _)).mono ?_
  rintro e w1 ⟨A1, c1, rfl, hs1, hb1⟩
  have HS1 := Lib.hid hs1; have HW1 := Lib.hid hb1
  clear hs1 hb1
  go_wp2_with fail
  refine (HB1.out _ _ _ HS1.out).mono ?_
  rintro e w2 ⟨A2, c2, rfl, hs2, hb2⟩
  have HS2 := Lib.hid hs2; have HW2 := Lib.hid (blw HW1.out hb2); have HS1b := Lib.hid (HS1.out.below hb2)
  clear hs2 hb2
  go_wp2_with fail
  refine (HSM.out _ _ _ _ _ HS2.out (H.out _ HW2.out)).mono ?_
  rintro e w3 ⟨rfl, hb3⟩
  have HW3 := Lib.hid (blw HW2.out hb3); have HS1c := Lib.hid (HS1b.out.below hb3)
  clear hb3
  go_wp2_with fail
  refine (HB2.out _ _ _ HS1c.out).mono ?_
  rintro e w4 ⟨A4, c4, rfl, hs4, hb4⟩
  have HS4 := Lib.hid hs4; have HW4 := Lib.hid (blw HW3.out hb4)
  clear hs4 hb4
  go_wp2_with fail
  refine (HC1.out _ HW4.out).mono ?_
  rintro e w5 ⟨A5, c5, rfl, hs5, hb5⟩
  have HS5 := Lib.hid hs5; have HS4b := Lib.hid (HS4.out.below hb5); have HW5 := Lib.hid (blw HW4.out hb5)
  clear hs5 hb5
  go_wp2_with fail
  refine (HC2.out _ HW5.out).mono ?_
  rintro e w6 ⟨A6, c6, rfl, hs6, hb6⟩
  have HS6 := Lib.hid hs6; have HS5b := Lib.hid (HS5.out.below hb6); have HS4c := Lib.hid (HS4b.out.below hb6); have HW6 := Lib.hid (blw HW5.out hb6)
  clear hs6 hb6
  go_wp2_with fail
  refine (HC3.out _ _ _ HS6.out).mono ?_
  rintro e w7 ⟨A7, c7, rfl, hs7, hb7⟩
  have HS7 := Lib.hid hs7; have HS5c := Lib.hid (HS5b.out.below hb7); have HS4d := Lib.hid (HS4c.out.below hb7); have HW7 := Lib.hid (blw HW6.out hb7)
  clear hs7 hb7
  go_wp2_with fail
  refine (HSX.out _ _ _ _ _ HS5c.out HS4d.out).mono ?_
  rintro e w8 ⟨rfl, hb8⟩
  have HS7b := Lib.hid (HS7.out.below hb8); have HS4e := Lib.hid (HS4d.out.below hb8); have HW8 := Lib.hid (blw HW7.out hb8)
  clear hb8
  go_wp2_with fail
  refine (HSX.out _ _ _ _ _ HS7b.out HS4e.out).mono ?_
  rintro e w9 ⟨rfl, hb9⟩
  have HW9 := Lib.hid (blw HW8.out hb9)
  clear hb9
  go_wp2_with fail
  refine (HK.out _).mono ?_
  rintro e w' ⟨rfl, hw⟩
  go_wp2
  go_ret
  exact ⟨rfl, blw HW9.out hw⟩

namespace stepsBack
open Go.ChangeShapes Go.WideShapes Go.ChangeAt Go.RowKit
theorem own : ownKnob Try.prog.godebug = none := by kernel_rfl
theorem laidOut : laidOutB Try.prog = true := by kernel_rfl

set_option maxRecDepth 100000 in
theorem lifted (os : Os) (started : os.Started) (H : Type) (enc : TypeId × Value → H) :
    ReturnsInHanded {} Try.checked os 8 .any (Rows.stepsBackSpec.pre6 enc Try.prog Try.f8 Rows.stepsBackRow.domain false) (Rows.stepsBackSpec.post enc Try.prog Try.f8 false true false false) := by
  refine returnsInHanded_of_change (C := Try.checked) own started (by kernel_rfl) Try.func8
    (ChangeSpec.witness6 (enc := enc) (C := Try.checked) false ⟨#[], #[.slice none 0 0, .int .i64 0, .int .i64 0, .int .i64 0, .int .i64 0], []⟩ 8 (by kernel_rfl) (by kernel_rfl) (by kernel_rfl) (by kernel_rfl)) ?_
  intro W base args ds gs before hval0 hW hcnd _
  have hval : ∀ (j : Nat) t v, Try.f8.params[j]? = some t → args[j]? = some v → Value.okWide Try.prog W .any base t v := hval0
  have hW' := hW
  obtain ⟨p, q, hA0, hV, rfl, hfz, hnd⟩ := hW
  have hA : DataW.TrodAll enc Try.prog W 0 (fun _ => true) true Try.f8.params.toList args.toList ds p := hA0
  rw [Try.params8] at hA hval
  obtain ⟨v0, vs0, d0, ds0, p0, q0, hargs, rfl, rfl, h0, r0⟩ := trodAll_cons hA
  obtain ⟨v1, vs1, d1, ds1, p1, q1, rfl, rfl, rfl, h1, r1⟩ := trodAll_cons r0
  obtain ⟨v2, vs2, d2, ds2, p2, q2, rfl, rfl, rfl, h2, r2⟩ := trodAll_cons r1
  obtain ⟨v3, vs3, d3, ds3, p3, q3, rfl, rfl, rfl, h3, r3⟩ := trodAll_cons r2
  obtain ⟨v4, vs4, d4, ds4, p4, q4, rfl, rfl, rfl, h4, r4⟩ := trodAll_cons r3
  obtain ⟨rfl, rfl, rfl⟩ := trodAll_nil r4
  obtain rfl : args = #[v0, v1, v2, v3, v4] := by cases args; simp_all
  obtain ⟨rfl, rfl⟩ := trodVars_none hV
  have k0 := h0
  have lt0 : ∀ x ∈ p0, x.block < W.heap.size := by obtain ⟨m, hm⟩ := k0; exact DataW.trod_lt m _ _ _ hm
  obtain ⟨A0, l0, c0, e0⟩ := okWide_slice Try.underlying22 (hval 0 22 v0 rfl rfl)
  obtain ⟨fuel0, hf0⟩ := h0
  rw [show v0.cells.toList = [v0] from by rw [e0]; rfl] at hf0
  clear e0 A0 l0 c0
  obtain ⟨A0, c0, z0, rfl, w0⟩ := Stp.steps_arg hf0
  obtain ⟨a1, rfl, rfl, rfl, w1⟩ := open_int Try.underlying3 (hval 1 3 v1 rfl rfl) h1
  obtain ⟨a2, rfl, rfl, rfl, w2⟩ := open_int Try.underlying3 (hval 2 3 v2 rfl rfl) h2
  obtain ⟨a3, rfl, rfl, rfl, w3⟩ := open_int Try.underlying3 (hval 3 3 v3 rfl rfl) h3
  obtain ⟨a4, rfl, rfl, rfl, w4⟩ := open_int Try.underlying3 (hval 4 3 v4 rfl rfl) h4
  clear hA0 hval0
  refine (walk_StepsBack W A0 c0 z0 w0 a1 a2 a3 a4).mono fun e W' ⟨he, bel⟩ => ?_
  subst he
  exact ⟨_, rfl, _, _, _, [], _, [], hW', trodAll_mk1 (shut_bool Try.underlying4 _), (trodAll_cons_mk (Below.trod laidOut (by kernel_rfl) (of_decide_eq_true (by kernel_rfl)) k0 bel lt0) (trodAll_cons_mk (shut_int Try.underlying3 w1) (trodAll_cons_mk (shut_int Try.underlying3 w2) (trodAll_cons_mk (shut_int Try.underlying3 w3) (trodAll_cons_mk (shut_int Try.underlying3 w4) trodAll_mk0))))), rfl, bel.frame _, fun h => by cases h⟩

theorem over : Rows.stepsBackRow.holds Try.pinned (OpenSpec.ofChange Rows.stepsBackSpec) :=
  OpenClaim.holds_of_wide 8 Try.f8 rfl rfl rfl rfl rfl rfl rfl ⟨rfl, rfl, rfl, rfl, rfl⟩ rfl rfl rfl rfl rfl (by kernel_rfl) Try.func8 (by kernel_rfl)
    (of_decide_eq_true (by kernel_rfl)) (by unfold Func.isWrapper; first | (rw [if_pos (by decide +kernel)]; kernel_rfl) | (rw [if_neg (by decide +kernel)]; exact ⟨rfl, rfl⟩))
    (fun os started H enc _ => lifted os started H enc)

theorem proved : Rows.StepsBackSaid := over
#print axioms proved
end stepsBack
end Go.Proofs.Ytmlkomcjbcolhaa

