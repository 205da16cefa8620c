/- FitWidest: for any steps, window and number, the law returns true, and all read afterwards as before. No condition. -/
import Derived.Test.YtldmkbmkjdnaaaaRows
import Derived.Test.YtldmkbmkjdnaaaaFitL
import Derived.Test.YtldmkbmkjdnaaaaFitArg
import Derived.WalkKit
import Derived.ProofKit
import Derived.OpenShut
import Derived.ShutString
import Derived.ChangeOld
import Derived.Below
namespace Go.Proofs.Ytldmkbmkjdnaaaa
open Go.ChangeShapes Go.WideShapes Go.ChangeAt Go.RowKit
open Stp (blw al kp dr drN Stp.below new2)
open Ft
set_option linter.unusedVariables false

set_option maxRecDepth 100000 in
set_option maxHeartbeats 3200000 in
theorem walk_FitWidest (w : World) (A : Option Addr) (c0 : Nat) (l : List StepD) (h : Stp.Stp w A c0 l) (a b d : Int) :
    Calls Try.prog 8 #[.slice A l.length c0, .agg #[.int .i64 a, .int .i64 b], .int .i64 d] w fun e w' => e = .returned (.bool true) ∧ Below w.heap.size w w' := by
  have HK := Lib.hid known10_any
  obtain ⟨m, hm⟩ : ∃ m, l.length = m := ⟨_, rfl⟩
  have hml : m ≤ 9223372036854775807 := by rw [← hm]; exact h.lenI
  rw [hm]
  by_cases hlong : 40 < m
  · clear h hm
    go_enter Try.func8, Try.ntmps8
    go_wp2_with fail
    refine (HK.out _).mono ?_
    rintro e w' ⟨rfl, hw⟩
    go_wp2
    go_ret
    exact ⟨rfl, blw (al w _) hw⟩
  have HC := Lib.hid fun W (hW : Below w.heap.size w W) => rchk_any l a b 1 d A m c0 hm W (h.below hW)
  rcases req_or l a b 1 d with hq | hq
  case inr =>
    have HB := Lib.hid fun W (hW : Below w.heap.size w W) => widest_bad l a b d 2 (Or.inl ⟨hq, rfl⟩) A m c0 hm W (h.below hW)
    rw [hq] at HC
    clear h hm hq
    obtain ⟨x0, x1⟩ := new2 w (.int .i64 a) (.int .i64 b) 28
    go_enter Try.func8, Try.ntmps8
    go_wp2_with fail
    refine (HB.out _ (al w _)).mono ?_
    rintro e w1 ⟨rfl, hb1⟩
    have HW1 := Lib.hid (blw (al w (.cells #[.int .i64 a, .int .i64 b] 28)) hb1)
    have y0 := kp hb1 x0; have y1 := kp hb1 x1
    clear hb1 x0 x1
    go_wp2_with fail
    refine (HC.out _ HW1.out).mono ?_
    rintro e w2 ⟨rfl, hb2⟩
    have HW2 := Lib.hid (blw HW1.out hb2)
    have z0 := kp hb2 y0; have z1 := kp hb2 y1
    clear hb2 y0 y1
    go_wp2_with fail
    refine (HK.out _).mono ?_
    rintro e w' ⟨rfl, hw⟩
    go_wp2
    go_ret
    exact ⟨rfl, blw HW2.out hw⟩
  have hr := req_yes.1 hq
  have ra := hr.ha; have rb := hr.hb; have rd := hr.hd
  have hw0 : IntKind.i64.wrap (b - a) = b - a := IntWalk.i64_in _ (by omega)
  by_cases hd0 : d = 0
  case pos =>
    subst hd0
    have HB := Lib.hid fun W (hW : Below w.heap.size w W) => widest_bad l a b 0 2 (Or.inr (Or.inl ⟨hq, rfl, rfl⟩)) A m c0 hm W (h.below hW)
    rw [hq] at HC
    clear h hm hq hr
    obtain ⟨x0, x1⟩ := new2 w (.int .i64 a) (.int .i64 b) 28
    go_enter Try.func8, Try.ntmps8
    go_wp2_with fail
    refine (HB.out _ (al w _)).mono ?_
    rintro e w1 ⟨rfl, hb1⟩
    have HW1 := Lib.hid (blw (al w (.cells #[.int .i64 a, .int .i64 b] 28)) hb1)
    have y0 := kp hb1 x0; have y1 := kp hb1 x1
    clear hb1 x0 x1
    go_wp2_with fail
    refine (HC.out _ HW1.out).mono ?_
    rintro e w2 ⟨rfl, hb2⟩
    have HW2 := Lib.hid (blw HW1.out hb2)
    have z0 := kp hb2 y0; have z1 := kp hb2 y1
    clear hb2 y0 y1
    go_wp2_with fail
    refine (HK.out _).mono ?_
    rintro e w' ⟨rfl, hw⟩
    go_wp2
    go_ret
    exact ⟨rfl, blw HW2.out hw⟩
  have hdb : (d == 0) = false := by rw [beq_eq_false_iff_ne]; exact hd0
  have hdp : 0 < d := by omega
  have hdpd : decide (0 < d) = true := decide_eq_true hdp
  by_cases hdd : d ≤ b - a
  case neg =>
    have HB := Lib.hid fun W (hW : Below w.heap.size w W) => widest_bad l a b d 70 (Or.inr (Or.inr ⟨hq, hd0, by omega, rfl⟩)) A m c0 hm W (h.below hW)
    rw [hq] at HC
    clear h hm hq hr
    obtain ⟨x0, x1⟩ := new2 w (.int .i64 a) (.int .i64 b) 28
    go_enter Try.func8, Try.ntmps8
    go_wp2_with fail
    refine (HB.out _ (al w _)).mono ?_
    rintro e w1 ⟨rfl, hb1⟩
    have HW1 := Lib.hid (blw (al w (.cells #[.int .i64 a, .int .i64 b] 28)) hb1)
    have y0 := kp hb1 x0; have y1 := kp hb1 x1
    clear hb1 x0 x1
    go_wp2_with fail
    refine (HC.out _ HW1.out).mono ?_
    rintro e w2 ⟨rfl, hb2⟩
    have HW2 := Lib.hid (blw HW1.out hb2)
    have z0 := kp hb2 y0; have z1 := kp hb2 y1
    clear hb2 y0 y1
    go_wp2_with fail
    refine (HK.out _).mono ?_
    rintro e w' ⟨rfl, hw⟩
    go_wp2
    go_ret
    exact ⟨rfl, blw HW2.out hw⟩
  have HB := Lib.hid fun W (hW : Below w.heap.size w W) => widest_any l a b d hq hd0 hdd A m c0 hm W (h.below hW)
  unfold RetWi at HB
  have HX := Lib.hid fun W (hW : Below w.heap.size w W) => rwid_any l hr.prof a b d hd0 ra rb rd A m c0 hm W (h.below hW)
  have HF := Lib.hid fun n W (hW : Below w.heap.size w W) => first_any l a b n d A m c0 hm W (h.below hW)
  have HY := Lib.hid fun n W (hW : Below w.heap.size w W) => rfirst_any l hr.prof a b n d ra rb rd A m c0 hm W (h.below hW)
  rw [hq] at HC
  clear h hm hq
  obtain ⟨x0, x1⟩ := new2 w (.int .i64 a) (.int .i64 b) 28
  go_enter Try.func8, Try.ntmps8
  go_wp2_with fail
  refine (HB.out _ (al w _)).mono ?_
  rintro e w1 ⟨⟨k, hk, rfl⟩, hb1⟩
  obtain ⟨i1, i2, i3⟩ := wid_is hr hd0 hdd hk
  have HK1 := Lib.hid hk; have HI1 := Lib.hid (And.intro i1 (And.intro i2 i3))
  rw [i2]
  have hk10 := hk.le
  clear i1 i2 i3 hk
  have HW1 := Lib.hid (blw (al w (.cells #[.int .i64 a, .int .i64 b] 28)) hb1)
  have y0 := kp hb1 x0; have y1 := kp hb1 x1
  clear hb1 x0 x1
  go_wp2_with fail
  refine (HC.out _ HW1.out).mono ?_
  rintro e w2 ⟨rfl, hb2⟩
  have HW2 := Lib.hid (blw HW1.out hb2)
  have z0 := kp hb2 y0; have z1 := kp hb2 y1
  clear hb2 y0 y1
  have hx := HX.out _ HW2.out
  rw [HI1.out.1] at hx
  go_wp2_with fail
  refine hx.mono ?_
  rintro e w3 ⟨rfl, hb3⟩
  have HW3 := Lib.hid (blw HW2.out hb3)
  have u0 := kp hb3 z0; have u1 := kp hb3 z1
  have hkk : ((k : Int) == (k : Int)) = true := by simp
  have hkk2 : ((k : Int) != (k : Int)) = false := by simp
  clear hb3 z0 z1 hx
  by_cases hk0 : k = 0
  · have hv := HI1.out.2.2 hk0
    subst hk0
    rw [hv]
    have haa : (a == a) = true := by simp
    clear HX HB HF HY
    go_wp2_with fail
    refine (HK.out _).mono ?_
    rintro e w' ⟨rfl, hw⟩
    go_wp2
    go_ret
    exact ⟨rfl, blw HW3.out hw⟩
  · have hkb : ((k : Int) == 0) = false := by rw [beq_eq_false_iff_ne]; omega
    have hrk : ReqY l a b (k : Int) d := ⟨hr.prof, ra, rb, ⟨by omega, by omega⟩, rd⟩
    obtain ⟨x, hx⟩ : ∃ x, fstV (fitL l (k : Int) d a b) = x := ⟨_, rfl⟩
    have hy := HY.out (k : Int)
    have hfir : firN l a b (k : Int) d = x := by
      rcases fir_is hrk with ⟨e, _⟩ | ⟨_, e, _⟩
      · exact absurd e (fst_zero.1 HI1.out.2.1)
      · rw [e, hx]
    rw [hfir] at hy
    rw [hx]
    have hxx : (x == x) = true := by simp
    have hy2 := Lib.hid hy
    by_cases h10 : k < 10000
    · have hrk1 : ReqY l a b ((k : Int) + 1) d := ⟨hr.prof, ra, rb, ⟨by omega, by omega⟩, rd⟩
      have hf := HF.out ((k : Int) + 1)
      have he70 : firstE l a b ((k : Int) + 1) d = 70 := by
        unfold firstE
        rw [if_pos (req_yes.2 hrk1)]
        rcases HK1.out.none with e | e
        · omega
        · rw [e]; rfl
      rw [he70] at hf
      have hf2 := Lib.hid hf
      have wk : IntKind.i64.wrap ((k : Int) + 1) = (k : Int) + 1 := IntWalk.i64_in _ (by omega)
      clear HX HB HF HY hy hf hfir hx hrk hrk1 he70
      go_wp2_with fail
      refine (hf2.out _ HW3.out).mono ?_
      rintro e w4 ⟨rfl, hb4⟩
      have HW4 := Lib.hid (blw HW3.out hb4)
      have v0 := kp hb4 u0; have v1 := kp hb4 u1
      clear hb4 u0 u1
      go_wp2_with fail
      refine (hy2.out _ HW4.out).mono ?_
      rintro e w5 ⟨rfl, hb5⟩
      have HW5 := Lib.hid (blw HW4.out hb5)
      clear hb5 v0 v1
      go_wp2_with fail
      refine (HK.out _).mono ?_
      rintro e w' ⟨rfl, hw⟩
      go_wp2
      go_ret
      exact ⟨rfl, blw HW5.out hw⟩
    · clear HX HB HF HY hy hfir hx hrk
      go_wp2_with fail
      refine (hy2.out _ HW3.out).mono ?_
      rintro e w5 ⟨rfl, hb5⟩
      have HW5 := Lib.hid (blw HW3.out hb5)
      clear hb5 u0 u1
      go_wp2_with fail
      refine (HK.out _).mono ?_
      rintro e w' ⟨rfl, hw⟩
      go_wp2
      go_ret
      exact ⟨rfl, blw HW5.out hw⟩

namespace fitWidest
open Go.ChangeShapes Go.WideShapes Go.ChangeAt Go.RowKit
theorem own : ownKnob Try.prog.godebug = none := by kernel_rfl
theorem laidOut : laidOutB Try.prog = true := by kernel_rfl

set_option maxRecDepth 100000 in
theorem lifted (os : Os) (started : os.Started) (H : Type) (enc : TypeId × Value → H) :
    ReturnsInHanded {} Try.checked os 8 .any (Rows.fitWidestSpec.pre6 enc Try.prog Try.f8 Rows.fitWidestRow.domain false) (Rows.fitWidestSpec.post enc Try.prog Try.f8 false true false false) := by
  refine returnsInHanded_of_change (C := Try.checked) own started (by kernel_rfl) Try.func8
    (ChangeSpec.witness6 (enc := enc) (C := Try.checked) false ⟨#[], #[.slice none 0 0, .agg #[.int .i64 0, .int .i64 0], .int .i64 0], []⟩ 8 (by kernel_rfl) (by kernel_rfl) (by kernel_rfl) (by kernel_rfl)) ?_
  intro W base args ds gs before hval0 hW hcnd _
  have hval : ∀ (j : Nat) t v, Try.f8.params[j]? = some t → args[j]? = some v → Value.okWide Try.prog W .any base t v := hval0
  have hW' := hW
  obtain ⟨p, q, hA0, hV, rfl, hfz, hnd⟩ := hW
  have hA : DataW.TrodAll enc Try.prog W 0 (fun _ => true) true Try.f8.params.toList args.toList ds p := hA0
  rw [Try.params8] at hA hval
  obtain ⟨v0, vs0, d0, ds0, p0, q0, hargs, rfl, rfl, h0, r0⟩ := trodAll_cons hA
  obtain ⟨v1, vs1, d1, ds1, p1, q1, rfl, rfl, rfl, h1, r1⟩ := trodAll_cons r0
  obtain ⟨v2, vs2, d2, ds2, p2, q2, rfl, rfl, rfl, h2, r2⟩ := trodAll_cons r1
  obtain ⟨rfl, rfl, rfl⟩ := trodAll_nil r2
  obtain rfl : args = #[v0, v1, v2] := by cases args; simp_all
  obtain ⟨rfl, rfl⟩ := trodVars_none hV
  have k0 := h0
  have lt0 : ∀ x ∈ p0, x.block < W.heap.size := by obtain ⟨m, hm⟩ := k0; exact DataW.trod_lt m _ _ _ hm
  obtain ⟨A0, l0, c0, e0⟩ := okWide_slice Try.underlying22 (hval 0 22 v0 rfl rfl)
  obtain ⟨fuel0, hf0⟩ := h0
  rw [show v0.cells.toList = [v0] from by rw [e0]; rfl] at hf0
  clear e0 A0 l0 c0
  obtain ⟨A0, c0, z0, rfl, w0⟩ := Stp.steps_arg hf0
  have k1 := h1
  have lt1 : ∀ x ∈ p1, x.block < W.heap.size := by obtain ⟨m, hm⟩ := k1; exact DataW.trod_lt m _ _ _ hm
  obtain ⟨cs1, e1, _⟩ := okWide_struct Try.underlying28 (hval 1 28 v1 rfl rfl)
  obtain ⟨fuel1, hf1⟩ := h1
  rw [show v1.cells.toList = cs1.toList from by rw [e1]; rfl] at hf1
  obtain ⟨x1, y1, hcs1⟩ := Ft.win_arg hf1
  obtain rfl : cs1 = #[.int .i64 x1, .int .i64 y1] := by rw [← Array.toArray_toList (xs := cs1), hcs1]
  subst e1
  clear hf1 hcs1
  obtain ⟨a2, rfl, rfl, rfl, w2⟩ := open_int Try.underlying3 (hval 2 3 v2 rfl rfl) h2
  clear hA0 hval0
  refine (walk_FitWidest W A0 c0 z0 w0 x1 y1 a2).mono fun e W' ⟨he, bel⟩ => ?_
  subst he
  exact ⟨_, rfl, _, _, _, [], _, [], hW', trodAll_mk1 (shut_bool Try.underlying4 _), (trodAll_cons_mk (Below.trod laidOut (by kernel_rfl) (of_decide_eq_true (by kernel_rfl)) k0 bel lt0) (trodAll_cons_mk (Below.trod laidOut (by kernel_rfl) (of_decide_eq_true (by kernel_rfl)) k1 bel lt1) (trodAll_cons_mk (shut_int Try.underlying3 w2) trodAll_mk0))), rfl, bel.frame _, fun h => by cases h⟩

theorem over : Rows.fitWidestRow.holds Try.pinned (OpenSpec.ofChange Rows.fitWidestSpec) :=
  OpenClaim.holds_of_wide 8 Try.f8 rfl rfl rfl rfl rfl rfl rfl ⟨rfl, rfl, rfl, rfl, rfl⟩ rfl rfl rfl rfl rfl (by kernel_rfl) Try.func8 (by kernel_rfl)
    (of_decide_eq_true (by kernel_rfl)) (by unfold Func.isWrapper; first | (rw [if_pos (by decide +kernel)]; kernel_rfl) | (rw [if_neg (by decide +kernel)]; exact ⟨rfl, rfl⟩))
    (fun os started H enc _ => lifted os started H enc)

theorem proved : Rows.FitWidestSaid := over
#print axioms proved
end fitWidest
end Go.Proofs.Ytldmkbmkjdnaaaa

