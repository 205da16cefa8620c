/- FitBounds: for any steps, window and numbers, the law returns true, and all read afterwards as before. No condition. -/
import Derived.Test.YtldmkbmkjdnaaaaRows
import Derived.Test.YtldmkbmkjdnaaaaFitH
import Derived.Test.YtldmkbmkjdnaaaaFitArg
import Derived.WalkKit
import Derived.ProofKit
import Derived.OpenShut
import Derived.ShutString
import Derived.ChangeOld
import Derived.Below
namespace Go.Proofs.Ytldmkbmkjdnaaaa
open Go.ChangeShapes Go.WideShapes Go.ChangeAt Go.RowKit
open Stp (blw al kp dr drN Stp.below new2)
open Ft
set_option linter.unusedVariables false

def inF (t : Int) : Bool → List StepD → Bool
  | acc, [] => acc
  | acc, x :: l => inF t (acc || (decide (x.at_ ≤ t) && decide (t ≤ x.fr))) l
theorem inF_is (t : Int) : ∀ (l : List StepD) (acc : Bool), inF t acc l = true ↔ acc = true ∨ InW l t
  | [], acc => by simp [inF, inW_nil]
  | x :: l, acc => by
    unfold inF
    rw [inF_is t l, inW_cons]
    simp only [Bool.or_eq_true, Bool.and_eq_true, decide_eq_true_eq, or_assoc]
theorem bool_eq {r s : Bool} (h : r = true ↔ s = true) : r = s := by cases r <;> cases s <;> simp_all
/-- what the law finds of a request that may be -/
structure BdY (R : List StepD) (a b t : Int) (r : Bool) : Prop where
  inn : inF t false R = r
  each : ∀ (k : Nat) (x : StepD), R[k]? = some x → x.at_ ≤ x.fr ∧ 0 ≤ x.at_ ∧ x.fr ≤ 1099511627775
  next : ∀ (k : Nat) (x y : StepD), R[k]? = some x → R[k + 1]? = some y → x.fr + 1 < y.at_
  mid : r = true → R ≠ [] ∧ fstV R ≤ t ∧ t ≤ lstV R
theorem end_is {R : List StepD} {t : Int} {r : Bool} {q : Nat} (hq : R.length = q) (h : r = true → R ≠ [] ∧ fstV R ≤ t ∧ t ≤ lstV R) :
    (fstE R = 70 ∧ q = 0 ∧ r = false) ∨ (fstE R = 0 ∧ 0 < q ∧ ∃ x0 xl, R[0]? = some x0 ∧ R[q - 1]? = some xl ∧ fstV R = x0.at_ ∧ lstV R = xl.fr ∧ (r = true → fstV R ≤ t ∧ t ≤ lstV R)) := by
  by_cases hR : R = []
  · subst hR
    refine Or.inl ⟨rfl, hq.symm, ?_⟩
    cases r
    · rfl
    · exact absurd rfl (h rfl).1
  · have hl : 0 < R.length := List.length_pos_iff.2 hR
    subst hq
    refine Or.inr ⟨fst_zero.2 hR, by omega, R[0], R[R.length - 1]'(by omega), List.getElem?_eq_getElem hl, List.getElem?_eq_getElem (by omega), ?_, ?_, fun hr => (h hr).2⟩
    · cases R with
      | nil => exact absurd rfl hR
      | cons x R => rfl
    · exact lastV_get 0 (List.getElem?_eq_getElem (by omega))
theorem bd_is {l : List StepD} {a b n d t : Int} (hq : reqE l a b n d = 0) (hi : Clk.isT t = true) : BdY (fitL l n d a b) a b t (fitB l n d a b t) := by
  have hy := fitY (req_yes.1 hq)
  obtain ⟨hp, ha, hb, hn, hd, hl⟩ := req_bds hq
  have hf := fitB_iff hp (n := n) (t := t) hd.1 ha.1 hb.2
  refine ⟨bool_eq ?_, fun k x hk => ?_, fun k x y hk hk' => sep_next hy.sep hk hk', fun hr => ?_⟩
  · rw [inF_is, hy.in_ t, hf]; simp
  · have h1 := sep_get hy.sep hk
    have h2 := (hy.in_ x.fr).1 ⟨x, List.mem_of_getElem? hk, h1.1, Int.le_refl _⟩
    have h3 := (hy.in_ x.at_).1 ⟨x, List.mem_of_getElem? hk, Int.le_refl _, h1.1⟩
    have := h2.2.1; have := h3.1
    exact ⟨h1.1, by omega, by omega⟩
  · have h1 := hf.1 hr
    have hne := hy.ne h1
    exact ⟨hne, (hy.fst hne).2 t h1, (hy.lst hne).2 t h1⟩

set_option maxRecDepth 100000 in
set_option maxHeartbeats 3200000 in
theorem walk_FitBounds (w : World) (A : Option Addr) (c0 : Nat) (l : List StepD) (h : Stp.Stp w A c0 l) (a b n d t : Int) :
    Calls Try.prog 7 #[.slice A l.length c0, .agg #[.int .i64 a, .int .i64 b], .int .i64 n, .int .i64 d, .int .i64 t] w fun e w' => e = .returned (.bool true) ∧ Below w.heap.size w w' := by
  have HK := Lib.hid known10_any
  obtain ⟨m, hm⟩ : ∃ m, l.length = m := ⟨_, rfl⟩
  have hml : m ≤ 9223372036854775807 := by rw [← hm]; exact h.lenI
  rw [hm]
  by_cases hlong : 40 < m
  · clear h hm
    go_enter Try.func7, Try.ntmps7
    go_wp2_with fail
    refine (HK.out _).mono ?_
    rintro e w' ⟨rfl, hw⟩
    go_wp2
    go_ret
    exact ⟨rfl, blw (al w _) hw⟩
  have HF := Lib.hid fun W (hW : Below w.heap.size w W) => fits_any l a b n d t A m c0 hm W (h.below hW)
  by_cases hok : fitsE l a b n d t = 0
  case neg =>
    have k1 : fitsV l a b n d t = false := by
      unfold fitsE at hok
      unfold fitsV
      rcases req_or l a b n d with hq | hq
      · cases hi : Clk.isT t
        · simp
        · exact absurd (if_pos ⟨hq, hi⟩) hok
      · rw [hq]; rfl
    have k2 : fitsE l a b n d t = 2 := by
      unfold fitsE at hok ⊢
      split
      · rename_i hc; rw [if_pos hc] at hok; exact absurd rfl hok
      · rfl
    rw [k1, k2] at HF
    clear h hm hok k1 k2
    obtain ⟨x0, x1⟩ := new2 w (.int .i64 a) (.int .i64 b) 28
    go_enter Try.func7, Try.ntmps7
    go_wp2_with fail
    refine (HF.out _ (al w _)).mono ?_
    rintro e w1 ⟨rfl, hb1⟩
    have HW1 := Lib.hid (blw (al w (.cells #[.int .i64 a, .int .i64 b] 28)) hb1)
    have y0 := kp hb1 x0; have y1 := kp hb1 x1
    clear hb1 x0 x1
    go_wp2_with fail
    refine (HK.out _).mono ?_
    rintro e w' ⟨rfl, hw⟩
    go_wp2
    go_ret
    exact ⟨rfl, blw HW1.out hw⟩
  obtain ⟨hq, hi⟩ : reqE l a b n d = 0 ∧ Clk.isT t = true := by
    unfold fitsE at hok
    by_cases hc : reqE l a b n d = 0 ∧ Clk.isT t = true
    · exact hc
    · rw [if_neg hc] at hok; cases hok
  have HL := Lib.hid fun W (hW : Below w.heap.size w W) => last_any l a b n d A m c0 hm W (h.below hW)
  have HG := Lib.hid fun W (hW : Below w.heap.size w W) => first_any l a b n d A m c0 hm W (h.below hW)
  have HA := Lib.hid fun W (hW : Below w.heap.size w W) => all_any l a b n d A m c0 hm W (h.below hW)
  unfold RetW2 at HA
  have hB := bd_is hq hi
  have hlen : (fitL l n d a b).length ≤ 40 := by
    unfold fitL
    exact Nat.le_trans (gap_len l 0) (by omega)
  obtain ⟨r, hr⟩ : ∃ r, fitB l n d a b t = r := ⟨_, rfl⟩
  have k1 : fitsV l a b n d t = r := by unfold fitsV; rw [hi, hq, hr]; simp
  obtain ⟨R, hR⟩ : ∃ R, fitL l n d a b = R := ⟨_, rfl⟩
  have e1 : firstV l a b n d = fstV R := by unfold firstV; rw [if_pos hq, hR]
  have e2 : firstE l a b n d = fstE R := by unfold firstE; rw [if_pos hq, hR]
  have e3 : lastR l a b n d = lstV R := by unfold lastR; rw [if_pos hq, hR]
  have e4 : allL l a b n d = R := by unfold allL; rw [if_pos hq, hR]
  rw [hok, k1] at HF
  rw [e1, e2] at HG
  rw [e3, e2] at HL
  rw [e4, hq] at HA
  rw [hr, hR] at hB
  rw [hR] at hlen
  obtain ⟨q, hqq⟩ : ∃ q, R.length = q := ⟨_, rfl⟩
  rw [hqq] at HA hlen
  have hend := end_is (q := q) hqq hB.mid
  obtain ⟨gE, hgE⟩ : ∃ x, fstE R = x := ⟨_, rfl⟩
  obtain ⟨xF, hxF⟩ : ∃ x, fstV R = x := ⟨_, rfl⟩
  obtain ⟨yL, hyL⟩ : ∃ x, lstV R = x := ⟨_, rfl⟩
  rw [hxF, hgE] at HG
  rw [hyL, hgE] at HL
  rw [hxF, hyL, hgE] at hend
  have HEND := Lib.hid hend
  have HB := Lib.hid hB; have HQ := Lib.hid hqq
  have HIN : Hid (inF t false (R.drop 0) = r) := Lib.hid hB.inn
  clear h hm hok k1 hq hi e1 e2 e3 e4 hr hR hB hqq hend hgE hxF hyL
  obtain ⟨x0, x1⟩ := new2 w (.int .i64 a) (.int .i64 b) 28
  go_enter Try.func7, Try.ntmps7
  go_wp2_with fail
  refine (HF.out _ (al w _)).mono ?_
  rintro e w1 ⟨rfl, hb1⟩
  have HW1 := Lib.hid (blw (al w (.cells #[.int .i64 a, .int .i64 b] 28)) hb1)
  have y0 := kp hb1 x0; have y1 := kp hb1 x1
  clear hb1 x0 x1
  go_wp2_with fail
  refine (HA.out _ HW1.out).mono ?_
  rintro e w2 ⟨A2, c2, rfl, hs2, hb2⟩
  have HW2 := Lib.hid (blw HW1.out hb2)
  have HS2 := Lib.hid hs2
  have z0 := kp hb2 y0; have z1 := kp hb2 y1
  have Z := Lib.hid (And.intro z0 z1)
  clear hb2 y0 y1 hs2 z0 z1
  go_wp2_with fail
  go_loopw [15, 16] (fun vi vk wr => ∃ (k : Nat) (acc : Bool), k ≤ q ∧ vk = .int .i64 k ∧ vi = .bool acc ∧ Hid (inF t acc (R.drop k) = r) ∧ Hid (Below w2.heap.size w2 wr)) (fun _ vk _ => q - (intOf vk).toNat)
  case atStart => exact ⟨0, false, Nat.zero_le _, rfl, rfl, HIN, Lib.hid (Below.refl _ _)⟩
  case round =>
    clear HIN
    obtain ⟨k, acc, hk, rfl, rfl, HI, HX⟩ := hrel
    by_cases hlt : k < q
    · obtain ⟨bb, off, x, eA, hx, c1, c2'⟩ := (HS2.out.below HX.out).lt (k := k) (by rw [HQ.out]; exact hlt)
      subst eA
      have hd0 : R.drop k = x :: R.drop (k + 1) := by rw [List.drop_eq_getElem_cons (by rw [HQ.out]; exact hlt), (List.getElem?_eq_some_iff.1 hx).2]
      obtain ⟨h1, h2, h3⟩ := HB.out.each k x hx
      have hgt : ¬ x.fr < x.at_ := by omega
      rcases Nat.eq_zero_or_pos k with h0 | h0
      · subst h0
        rw [Nat.zero_mul, Nat.add_zero] at c1
        rw [Nat.zero_mul, Nat.add_zero] at c2'
        go_wp2_with fail
        go_quiet (fail)
        have d1 := kp (drN wr nq) c1; have d2 := kp (drN wr nq) c2'
        have HX4 := Lib.hid (HX.out.trans ((drN wr nq).mono HX.out.size))
        generalize wr.drewN nq = W4 at d1 d2 HX4 ⊢
        have hI := HI.out
        rw [hd0] at hI
        unfold inF at hI
        clear HI hd0 hx c1 c2' 
        cases acc
        · by_cases i1 : x.at_ ≤ t
          · by_cases i2 : t ≤ x.fr
            · rw [Bool.false_or, decide_eq_true i1, decide_eq_true i2, Bool.true_and] at hI
              have HI2 := Lib.hid hI
              clear hI
              go_wp2_with fail
              refine ⟨⟨1, true, by omega, by go_num, by first | rfl | simp [i2] | simp [i1], HI2, HX4⟩, ?_⟩
              simp [intOf]; omega
            · rw [Bool.false_or, decide_eq_true i1, decide_eq_false i2, Bool.true_and] at hI
              have HI2 := Lib.hid hI
              clear hI
              go_wp2_with fail
              refine ⟨⟨1, false, by omega, by go_num, by first | rfl | simp [i2] | simp [i1], HI2, HX4⟩, ?_⟩
              simp [intOf]; omega
          · rw [Bool.false_or, decide_eq_false i1, Bool.false_and] at hI
            have HI2 := Lib.hid hI
            clear hI
            go_wp2_with fail
            refine ⟨⟨1, false, by omega, by go_num, by first | rfl | simp [i2] | simp [i1], HI2, HX4⟩, ?_⟩
            simp [intOf]; omega
        · rw [Bool.true_or] at hI
          have HI2 := Lib.hid hI
          clear hI
          go_wp2_with fail
          refine ⟨⟨1, true, by omega, by go_num, by first | rfl | simp [i2] | simp [i1], HI2, HX4⟩, ?_⟩
          simp [intOf]; omega
      · obtain ⟨j, hj⟩ : ∃ j, k = j + 1 := ⟨k - 1, by omega⟩
        obtain ⟨bb2, off2, x2, eA2, hx2, c3, c4⟩ := (HS2.out.below HX.out).lt (k := j) (by rw [HQ.out]; omega)
        obtain ⟨rfl, rfl⟩ : bb = bb2 ∧ off = off2 := by injection eA2 with eA2; injection eA2 with e1 e2; exact ⟨e1, e2⟩
        have hnx := HB.out.next j x2 x hx2 (by rw [← hj]; exact hx)
        have hj2 := (HB.out.each j x2 hx2).2
        have hj3 := (HB.out.each j x2 hx2).1
        have w1' : IntKind.i64.wrap ((k : Int) - 1) = (j : Int) := by rw [IntWalk.i64_in _ (by omega)]; omega
        have w2' : IntKind.i64.wrap (x2.fr + 1) = x2.fr + 1 := IntWalk.i64_in _ (by omega)
        have hjq : j < q := by omega
        have hle : ¬ x.at_ ≤ x2.fr + 1 := by omega
        have hk0 : 0 < k := h0
        clear eA2 hx2 hj h0
        go_wp2_with fail
        go_quiet (fail)
        have d1 := kp (drN wr nq) c1; have d2 := kp (drN wr nq) c2'
        have HX4 := Lib.hid (HX.out.trans ((drN wr nq).mono HX.out.size))
        generalize wr.drewN nq = W4 at d1 d2 HX4 ⊢
        have hI := HI.out
        rw [hd0] at hI
        unfold inF at hI
        clear HI hd0 hx c1 c2' c3 c4
        cases acc
        · by_cases i1 : x.at_ ≤ t
          · by_cases i2 : t ≤ x.fr
            · rw [Bool.false_or, decide_eq_true i1, decide_eq_true i2, Bool.true_and] at hI
              have HI2 := Lib.hid hI
              clear hI
              go_wp2_with fail
              refine ⟨⟨k + 1, true, by omega, by go_num, by first | rfl | simp [i2] | simp [i1], HI2, HX4⟩, ?_⟩
              simp [intOf]; omega
            · rw [Bool.false_or, decide_eq_true i1, decide_eq_false i2, Bool.true_and] at hI
              have HI2 := Lib.hid hI
              clear hI
              go_wp2_with fail
              refine ⟨⟨k + 1, false, by omega, by go_num, by first | rfl | simp [i2] | simp [i1], HI2, HX4⟩, ?_⟩
              simp [intOf]; omega
          · rw [Bool.false_or, decide_eq_false i1, Bool.false_and] at hI
            have HI2 := Lib.hid hI
            clear hI
            go_wp2_with fail
            refine ⟨⟨k + 1, false, by omega, by go_num, by first | rfl | simp [i2] | simp [i1], HI2, HX4⟩, ?_⟩
            simp [intOf]; omega
        · rw [Bool.true_or] at hI
          have HI2 := Lib.hid hI
          clear hI
          go_wp2_with fail
          refine ⟨⟨k + 1, true, by omega, by go_num, by first | rfl | simp [i2] | simp [i1], HI2, HX4⟩, ?_⟩
          simp [intOf]; omega
    · obtain rfl : k = q := by omega
      have hI := HI.out
      rw [List.drop_eq_nil_of_le (by rw [HQ.out]; exact Nat.le_refl _)] at hI
      obtain rfl : acc = r := hI
      have HW3 := Lib.hid (blw HW2.out HX.out)
      have z0 := kp HX.out Z.out.1; have z1 := kp HX.out Z.out.2
      clear HI
      go_wp2_with fail
      refine (HG.out _ HW3.out).mono ?_
      rintro e w4 ⟨rfl, hb4⟩
      have HW4 := Lib.hid (blw HW3.out hb4)
      have y0 := kp hb4 z0; have y1 := kp hb4 z1
      have HS4 := Lib.hid ((HS2.out.below HX.out).below hb4)
      clear hb4 z0 z1
      go_wp2_with fail
      refine (HL.out _ HW4.out).mono ?_
      rintro e w5 ⟨rfl, hb5⟩
      have HW5 := Lib.hid (blw HW4.out hb5)
      have HS5 := Lib.hid (HS4.out.below hb5)
      have haa : (acc == acc) = true := by simp
      have haa2 : (acc != acc) = false := by simp
      clear hb5 y0 y1
      rcases HEND.out with ⟨rfl, rfl, rfl⟩ | ⟨rfl, hk0, x0, xl, hx0, hxl, rfl, rfl, hmid⟩
      · go_wp2_with fail
        refine (HK.out _).mono ?_
        rintro e w' ⟨rfl, hw⟩
        go_wp2
        go_ret
        exact ⟨rfl, blw HW5.out hw⟩
      · obtain ⟨b0, o0, eA0, d0, _⟩ := HS5.out.cells 0 x0 hx0
        obtain ⟨b1, o1, eA1, _, d1⟩ := HS5.out.cells (k - 1) xl hxl
        rw [Nat.zero_mul, Nat.add_zero] at d0
        subst eA0
        obtain ⟨rfl, rfl⟩ : b0 = b1 ∧ o0 = o1 := by injection eA1 with eA1; injection eA1 with e1 e2; exact ⟨e1, e2⟩
        obtain ⟨j, hj⟩ : ∃ j, k = j + 1 := ⟨k - 1, by omega⟩
        rw [show k - 1 = j from by omega] at d1
        have w1' : IntKind.i64.wrap ((k : Int) - 1) = (j : Int) := by rw [IntWalk.i64_in _ (by omega)]; omega
        have hjk : j < k := by omega
        clear hx0 hxl eA1 hj
        cases acc
        · clear hmid
          go_wp2_with fail
          refine (HK.out _).mono ?_
          rintro e w' ⟨rfl, hw⟩
          go_wp2
          go_ret
          exact ⟨rfl, blw HW5.out hw⟩
        · obtain ⟨m1, m2⟩ := hmid rfl
          go_wp2_with fail
          refine (HK.out _).mono ?_
          rintro e w' ⟨rfl, hw⟩
          go_wp2
          go_ret
          exact ⟨rfl, blw HW5.out hw⟩

namespace fitBounds
open Go.ChangeShapes Go.WideShapes Go.ChangeAt Go.RowKit
theorem own : ownKnob Try.prog.godebug = none := by kernel_rfl
theorem laidOut : laidOutB Try.prog = true := by kernel_rfl

set_option maxRecDepth 100000 in
theorem lifted (os : Os) (started : os.Started) (H : Type) (enc : TypeId × Value → H) :
    ReturnsInHanded {} Try.checked os 7 .any (Rows.fitBoundsSpec.pre6 enc Try.prog Try.f7 Rows.fitBoundsRow.domain false) (Rows.fitBoundsSpec.post enc Try.prog Try.f7 false true false false) := by
  refine returnsInHanded_of_change (C := Try.checked) own started (by kernel_rfl) Try.func7
    (ChangeSpec.witness6 (enc := enc) (C := Try.checked) false ⟨#[], #[.slice none 0 0, .agg #[.int .i64 0, .int .i64 0], .int .i64 0, .int .i64 0, .int .i64 0], []⟩ 8 (by kernel_rfl) (by kernel_rfl) (by kernel_rfl) (by kernel_rfl)) ?_
  intro W base args ds gs before hval0 hW hcnd _
  have hval : ∀ (j : Nat) t v, Try.f7.params[j]? = some t → args[j]? = some v → Value.okWide Try.prog W .any base t v := hval0
  have hW' := hW
  obtain ⟨p, q, hA0, hV, rfl, hfz, hnd⟩ := hW
  have hA : DataW.TrodAll enc Try.prog W 0 (fun _ => true) true Try.f7.params.toList args.toList ds p := hA0
  rw [Try.params7] at hA hval
  obtain ⟨v0, vs0, d0, ds0, p0, q0, hargs, rfl, rfl, h0, r0⟩ := trodAll_cons hA
  obtain ⟨v1, vs1, d1, ds1, p1, q1, rfl, rfl, rfl, h1, r1⟩ := trodAll_cons r0
  obtain ⟨v2, vs2, d2, ds2, p2, q2, rfl, rfl, rfl, h2, r2⟩ := trodAll_cons r1
  obtain ⟨v3, vs3, d3, ds3, p3, q3, rfl, rfl, rfl, h3, r3⟩ := trodAll_cons r2
  obtain ⟨v4, vs4, d4, ds4, p4, q4, rfl, rfl, rfl, h4, r4⟩ := trodAll_cons r3
  obtain ⟨rfl, rfl, rfl⟩ := trodAll_nil r4
  obtain rfl : args = #[v0, v1, v2, v3, v4] := by cases args; simp_all
  obtain ⟨rfl, rfl⟩ := trodVars_none hV
  have k0 := h0
  have lt0 : ∀ x ∈ p0, x.block < W.heap.size := by obtain ⟨m, hm⟩ := k0; exact DataW.trod_lt m _ _ _ hm
  obtain ⟨A0, l0, c0, e0⟩ := okWide_slice Try.underlying22 (hval 0 22 v0 rfl rfl)
  obtain ⟨fuel0, hf0⟩ := h0
  rw [show v0.cells.toList = [v0] from by rw [e0]; rfl] at hf0
  clear e0 A0 l0 c0
  obtain ⟨A0, c0, z0, rfl, w0⟩ := Stp.steps_arg hf0
  have k1 := h1
  have lt1 : ∀ x ∈ p1, x.block < W.heap.size := by obtain ⟨m, hm⟩ := k1; exact DataW.trod_lt m _ _ _ hm
  obtain ⟨cs1, e1, _⟩ := okWide_struct Try.underlying28 (hval 1 28 v1 rfl rfl)
  obtain ⟨fuel1, hf1⟩ := h1
  rw [show v1.cells.toList = cs1.toList from by rw [e1]; rfl] at hf1
  obtain ⟨x1, y1, hcs1⟩ := Ft.win_arg hf1
  obtain rfl : cs1 = #[.int .i64 x1, .int .i64 y1] := by rw [← Array.toArray_toList (xs := cs1), hcs1]
  subst e1
  clear hf1 hcs1
  obtain ⟨a2, rfl, rfl, rfl, w2⟩ := open_int Try.underlying3 (hval 2 3 v2 rfl rfl) h2
  obtain ⟨a3, rfl, rfl, rfl, w3⟩ := open_int Try.underlying3 (hval 3 3 v3 rfl rfl) h3
  obtain ⟨a4, rfl, rfl, rfl, w4⟩ := open_int Try.underlying3 (hval 4 3 v4 rfl rfl) h4
  clear hA0 hval0
  refine (walk_FitBounds W A0 c0 z0 w0 x1 y1 a2 a3 a4).mono fun e W' ⟨he, bel⟩ => ?_
  subst he
  exact ⟨_, rfl, _, _, _, [], _, [], hW', trodAll_mk1 (shut_bool Try.underlying4 _), (trodAll_cons_mk (Below.trod laidOut (by kernel_rfl) (of_decide_eq_true (by kernel_rfl)) k0 bel lt0) (trodAll_cons_mk (Below.trod laidOut (by kernel_rfl) (of_decide_eq_true (by kernel_rfl)) k1 bel lt1) (trodAll_cons_mk (shut_int Try.underlying3 w2) (trodAll_cons_mk (shut_int Try.underlying3 w3) (trodAll_cons_mk (shut_int Try.underlying3 w4) trodAll_mk0))))), rfl, bel.frame _, fun h => by cases h⟩

theorem over : Rows.fitBoundsRow.holds Try.pinned (OpenSpec.ofChange Rows.fitBoundsSpec) :=
  OpenClaim.holds_of_wide 7 Try.f7 rfl rfl rfl rfl rfl rfl rfl ⟨rfl, rfl, rfl, rfl, rfl⟩ rfl rfl rfl rfl rfl (by kernel_rfl) Try.func7 (by kernel_rfl)
    (of_decide_eq_true (by kernel_rfl)) (by unfold Func.isWrapper; first | (rw [if_pos (by decide +kernel)]; kernel_rfl) | (rw [if_neg (by decide +kernel)]; exact ⟨rfl, rfl⟩))
    (fun os started H enc _ => lifted os started H enc)

theorem proved : Rows.FitBoundsSaid := over
#print axioms proved
end fitBounds
end Go.Proofs.Ytldmkbmkjdnaaaa

