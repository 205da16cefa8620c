/- Layer 10: Fits; the document's Check, Fits. -/
import Derived.Test.YtldmkbmkjdnaaaaFitF
import Derived.Test.YtldmkbmkjdnaaaaStpR
namespace Go.Proofs.Ytldmkbmkjdnaaaa.Ft
open Go.RowKit Go.Shelf
open Stp
set_option linter.unusedVariables false
set_option maxRecDepth 100000

def fitB (l : List StepD) (n d a b t : Int) : Bool := decide (a ≤ t) && (decide (t + d ≤ b) && (decide (d = 0) || decide (n ≤ minV l t (t + d))))
def fitsV (l : List StepD) (a b n d t : Int) : Bool := decide (reqE l a b n d = 0) && (Clk.isT t && fitB l n d a b t)
def fitsE (l : List StepD) (a b n d t : Int) : Int := if reqE l a b n d = 0 ∧ Clk.isT t = true then 0 else 2
theorem end_ok {l : List StepD} (hp : Prof l) {a b : Int} (ha : 0 ≤ a) (hab : a < b) (hb : b ≤ 1099511627775) : endE l a b = 0 := by
  have h : durE l a b = 0 := by
    unfold durE
    rw [if_pos ⟨chkD_prof.2 hp, Clk.isT_yes ha (by omega), Clk.isT_yes (by omega) hb, by omega⟩]
  unfold endE
  rw [if_pos ⟨h, hab⟩]
theorem fitB_iff {l : List StepD} (hp : Prof l) {n d a b t : Int} (hd : 0 ≤ d) (ha : 0 ≤ a) (hb : b ≤ 1099511627775) : fitB l n d a b t = true ↔ FitP (valF 0 l) n d a b t := by
  unfold fitB FitP
  simp only [Bool.and_eq_true, Bool.or_eq_true, decide_eq_true_eq]
  constructor
  · rintro ⟨h1, h2, h3⟩
    refine ⟨h1, h2, fun u k1 k2 => ?_⟩
    rcases h3 with h3 | h3
    · omega
    · obtain ⟨hm, _⟩ := ext_is (end_ok hp (a := t) (b := t + d) (by omega) (by omega) (by omega))
      have := hm.1 u k1 k2
      omega
  · rintro ⟨h1, h2, h3⟩
    refine ⟨h1, h2, ?_⟩
    by_cases c : d = 0
    · exact Or.inl c
    · obtain ⟨⟨_, u, k1, k2, e⟩, _⟩ := ext_is (end_ok hp (a := t) (b := t + d) (by omega) (by omega) (by omega))
      refine Or.inr ?_
      rw [← e]
      exact h3 u k1 k2
set_option maxHeartbeats 1600000 in
theorem fits_any (l : List StepD) (a b n d t : Int) (A : Option Addr) (m c : Nat) (hm : l.length = m) (w : World) (h : Stp w A c l) :
    Calls Try.prog 22 #[.slice A m c, .agg #[.int .i64 a, .int .i64 b], .int .i64 n, .int .i64 d, .int .i64 t] w fun e w' => e = .returned (.tuple #[.bool (fitsV l a b n d t), .int .i64 (fitsE l a b n d t)]) ∧ Below w.heap.size w w' := by
  have HC := Lib.hid fun W (hW : Below w.heap.size w W) => fcheck_any l a b n d A m c hm W (h.below hW)
  have HIT := Lib.hid fun (W : World) => Clk.is_any t W
  have HL := Lib.hid fun W (hW : Below w.heap.size w W) => least_any l t (t + d) A m c hm W (h.below hW)
  obtain ⟨x0, x1⟩ := new2 w (.int .i64 a) (.int .i64 b) 28
  obtain ⟨r, hr⟩ : ∃ r, fitsV l a b n d t = r := ⟨_, rfl⟩
  obtain ⟨e0, he⟩ : ∃ r, fitsE l a b n d t = r := ⟨_, rfl⟩
  rw [hr, he]
  unfold fitsV at hr
  unfold fitsE at he
  rcases req_or l a b n d with hq | hq
  case inr =>
    rw [hq] at HC hr he
    obtain rfl : r = false := by rw [← hr]; rfl
    obtain rfl : e0 = 2 := by rw [← he]; rw [if_neg (by rintro ⟨h, _⟩; cases h)]
    clear h hm hr he hq HL
    go_enter Try.func22, Try.ntmps22
    go_wp2_with fail
    refine (HC.out _ (al w _)).mono ?_
    rintro e w1 ⟨rfl, hb1⟩
    have y0 := kp hb1 x0
    have y1 := kp hb1 x1
    have HB := Lib.hid (blw (al w _) hb1)
    clear hb1
    go_wp2
    go_ret2
    exact ⟨rfl, HB.out⟩
  obtain ⟨hp, ha, hb, hn, hd, hl⟩ := req_bds hq
  rw [hq] at HC hr he
  cases hi : Clk.isT t
  case false =>
    rw [hi] at HIT hr he
    obtain rfl : r = false := by rw [← hr]; rfl
    obtain rfl : e0 = 2 := by rw [← he]; rw [if_neg (by rintro ⟨_, h⟩; cases h)]
    clear h hm hr he hq hp hl hi HL
    go_enter Try.func22, Try.ntmps22
    go_wp2_with fail
    refine (HC.out _ (al w _)).mono ?_
    rintro e w1 ⟨rfl, hb1⟩
    have y0 := kp hb1 x0
    have y1 := kp hb1 x1
    have HB := Lib.hid (blw (al w _) hb1)
    clear hb1
    go_wp2_with fail
    refine (HIT.out _).mono ?_
    rintro e w2 ⟨rfl, rfl⟩
    go_wp2
    go_ret2
    exact ⟨rfl, HB.out⟩
  rw [hi] at HIT hr he
  have ht := Clk.isT_bd hi
  obtain rfl : e0 = 0 := by rw [← he]; rw [if_pos ⟨rfl, rfl⟩]
  have hr1 : fitB l n d a b t = r := by rw [← hr]; simp
  unfold fitB at hr1
  clear hr he
  have hw : IntKind.i64.wrap (t + d) = t + d := IntWalk.i64_in _ (by omega)
  by_cases c1 : t < a
  case pos =>
    obtain rfl : r = false := by rw [← hr1, decide_eq_false (by omega)]; rfl
    clear h hm hr1 hq hp hl hi HL
    go_enter Try.func22, Try.ntmps22
    go_wp2_with fail
    refine (HC.out _ (al w _)).mono ?_
    rintro e w1 ⟨rfl, hb1⟩
    have y0 := kp hb1 x0
    have y1 := kp hb1 x1
    have HB := Lib.hid (blw (al w _) hb1)
    clear hb1
    go_wp2_with fail
    refine (HIT.out _).mono ?_
    rintro e w2 ⟨rfl, rfl⟩
    go_wp2
    go_ret2
    exact ⟨rfl, HB.out⟩
  rw [decide_eq_true (show a ≤ t by omega), Bool.true_and] at hr1
  by_cases c2 : b < t + d
  case pos =>
    obtain rfl : r = false := by rw [← hr1, decide_eq_false (by omega)]; rfl
    clear h hm hr1 hq hp hl hi HL
    go_enter Try.func22, Try.ntmps22
    go_wp2_with fail
    refine (HC.out _ (al w _)).mono ?_
    rintro e w1 ⟨rfl, hb1⟩
    have y0 := kp hb1 x0
    have y1 := kp hb1 x1
    have HB := Lib.hid (blw (al w _) hb1)
    clear hb1
    go_wp2_with fail
    refine (HIT.out _).mono ?_
    rintro e w2 ⟨rfl, rfl⟩
    go_wp2
    go_ret2
    exact ⟨rfl, HB.out⟩
  rw [decide_eq_true (show t + d ≤ b by omega), Bool.true_and] at hr1
  by_cases c3 : d = 0
  case pos =>
    obtain rfl : r = true := by rw [← hr1, decide_eq_true c3]; rfl
    subst c3
    clear h hm hr1 hq hp hl hi HL
    go_enter Try.func22, Try.ntmps22
    go_wp2_with fail
    refine (HC.out _ (al w _)).mono ?_
    rintro e w1 ⟨rfl, hb1⟩
    have y0 := kp hb1 x0
    have y1 := kp hb1 x1
    have HB := Lib.hid (blw (al w _) hb1)
    clear hb1
    go_wp2_with fail
    refine (HIT.out _).mono ?_
    rintro e w2 ⟨rfl, rfl⟩
    go_wp2
    go_ret2
    exact ⟨rfl, HB.out⟩
  rw [decide_eq_false c3, Bool.false_or] at hr1
  have hE := end_ok hp (a := t) (b := t + d) (by omega) (by omega) (by omega)
  rw [hE] at HL
  obtain ⟨v, hv⟩ : ∃ v, minV l t (t + d) = v := ⟨_, rfl⟩
  rw [hv] at HL hr1
  have c3b : (d == 0) = false := by rw [beq_eq_false_iff_ne]; exact c3
  subst hr1
  clear h hm hq hp hl hi hE hv
  go_enter Try.func22, Try.ntmps22
  go_wp2_with fail
  refine (HC.out _ (al w _)).mono ?_
  rintro e w1 ⟨rfl, hb1⟩
  have y0 := kp hb1 x0
  have y1 := kp hb1 x1
  have HB := Lib.hid (blw (al w _) hb1)
  clear hb1
  go_wp2_with fail
  refine (HIT.out _).mono ?_
  rintro e w2 ⟨rfl, rfl⟩
  go_wp2_with fail
  refine (HL.out _ HB.out).mono ?_
  rintro e w3 ⟨rfl, hb3⟩
  have HB3 := Lib.hid (blw HB.out hb3)
  clear hb3
  go_wp2
  go_ret2
  exact ⟨rfl, HB3.out⟩

set_option maxHeartbeats 1600000 in
theorem rchk_any (l : List StepD) (a b n d : Int) (A : Option Addr) (m c : Nat) (hm : l.length = m) (w : World) (h : Stp w A c l) :
    Calls Try.prog 19 #[.slice A m c, .agg #[.int .i64 a, .int .i64 b], .int .i64 n, .int .i64 d] w fun e w' => e = .returned (.int .i64 (reqE l a b n d)) ∧ Below w.heap.size w w' := by
  obtain ⟨r, hr⟩ : ∃ r, reqE l a b n d = r := ⟨_, rfl⟩
  rw [hr]
  have HC := Lib.hid fun W (hW : Below w.heap.size w W) => rcheck_any l A m c hm W (h.below hW)
  have HIA := Lib.hid fun (W : World) => Clk.ris_any a W
  have HIB := Lib.hid fun (W : World) => Clk.ris_any b W
  have HID := Lib.hid fun (W : World) => Clk.ris_any d W
  obtain ⟨x0, x1⟩ := new2 w (.int .i64 a) (.int .i64 b) 28
  rcases chkE_or l with ⟨hc, hp⟩ | ⟨hc, hp⟩
  case inr =>
    rw [hc] at HC
    obtain rfl := req_no hr (by simp [hp])
    clear h hr hc hp
    go_enter Try.func19, Try.ntmps19
    go_wp2_with fail
    refine (HC.out _ (al w _)).mono ?_
    rintro e w1 ⟨rfl, hb1⟩
    have y0 := kp hb1 x0
    have y1 := kp hb1 x1
    have HB := Lib.hid (blw (al w _) hb1)
    clear hb1
    go_wp2
    go_ret
    exact ⟨rfl, HB.out⟩
  rw [hc] at HC
  have hcd := chkD_prof.2 hp
  clear h hc hp
  cases hi : Clk.isT a
  case false =>
    obtain rfl := req_no hr (by simp [hi])
    rw [hi] at HIA
    clear hr hi hcd
    go_enter Try.func19, Try.ntmps19
    go_wp2_with fail
    refine (HC.out _ (al w _)).mono ?_
    rintro e w1 ⟨rfl, hb1⟩
    have y0 := kp hb1 x0
    have y1 := kp hb1 x1
    have HB := Lib.hid (blw (al w _) hb1)
    clear hb1
    go_wp2_with fail
    refine (HIA.out _).mono ?_
    rintro e w2 ⟨rfl, rfl⟩
    go_wp2
    go_ret
    exact ⟨rfl, HB.out⟩
  rw [hi] at HIA
  cases hj : Clk.isT b
  case false =>
    obtain rfl := req_no hr (by simp [hj])
    rw [hj] at HIB
    clear hr hi hj hcd
    go_enter Try.func19, Try.ntmps19
    go_wp2_with fail
    refine (HC.out _ (al w _)).mono ?_
    rintro e w1 ⟨rfl, hb1⟩
    have y0 := kp hb1 x0
    have y1 := kp hb1 x1
    have HB := Lib.hid (blw (al w _) hb1)
    clear hb1
    go_wp2_with fail
    refine (HIA.out _).mono ?_
    rintro e w2 ⟨rfl, rfl⟩
    go_wp2_with fail
    refine (HIB.out _).mono ?_
    rintro e w2 ⟨rfl, rfl⟩
    go_wp2
    go_ret
    exact ⟨rfl, HB.out⟩
  rw [hj] at HIB
  cases hk : Clk.isT d
  case false =>
    obtain rfl := req_no hr (by simp [hk])
    rw [hk] at HID
    clear hr hi hj hk hcd
    go_enter Try.func19, Try.ntmps19
    go_wp2_with fail
    refine (HC.out _ (al w _)).mono ?_
    rintro e w1 ⟨rfl, hb1⟩
    have y0 := kp hb1 x0
    have y1 := kp hb1 x1
    have HB := Lib.hid (blw (al w _) hb1)
    clear hb1
    go_wp2_with fail
    refine (HIA.out _).mono ?_
    rintro e w2 ⟨rfl, rfl⟩
    go_wp2_with fail
    refine (HIB.out _).mono ?_
    rintro e w2 ⟨rfl, rfl⟩
    go_wp2_with fail
    refine (HID.out _).mono ?_
    rintro e w2 ⟨rfl, rfl⟩
    go_wp2
    go_ret
    exact ⟨rfl, HB.out⟩
  rw [hk] at HID
  by_cases hn1 : n < 1
  case pos =>
    obtain rfl := req_no hr (by omega)
    clear hr hi hj hk hcd
    go_enter Try.func19, Try.ntmps19
    go_wp2_with fail
    refine (HC.out _ (al w _)).mono ?_
    rintro e w1 ⟨rfl, hb1⟩
    have y0 := kp hb1 x0
    have y1 := kp hb1 x1
    have HB := Lib.hid (blw (al w _) hb1)
    clear hb1
    go_wp2_with fail
    refine (HIA.out _).mono ?_
    rintro e w2 ⟨rfl, rfl⟩
    go_wp2_with fail
    refine (HIB.out _).mono ?_
    rintro e w2 ⟨rfl, rfl⟩
    go_wp2_with fail
    refine (HID.out _).mono ?_
    rintro e w2 ⟨rfl, rfl⟩
    go_wp2
    go_ret
    exact ⟨rfl, HB.out⟩
  by_cases hn2 : 10000 < n
  case pos =>
    obtain rfl := req_no hr (by omega)
    clear hr hi hj hk hcd
    go_enter Try.func19, Try.ntmps19
    go_wp2_with fail
    refine (HC.out _ (al w _)).mono ?_
    rintro e w1 ⟨rfl, hb1⟩
    have y0 := kp hb1 x0
    have y1 := kp hb1 x1
    have HB := Lib.hid (blw (al w _) hb1)
    clear hb1
    go_wp2_with fail
    refine (HIA.out _).mono ?_
    rintro e w2 ⟨rfl, rfl⟩
    go_wp2_with fail
    refine (HIB.out _).mono ?_
    rintro e w2 ⟨rfl, rfl⟩
    go_wp2_with fail
    refine (HID.out _).mono ?_
    rintro e w2 ⟨rfl, rfl⟩
    go_wp2
    go_ret
    exact ⟨rfl, HB.out⟩
  obtain rfl : r = 0 := by rw [← hr]; unfold reqE; rw [if_pos ⟨hcd, hi, hj, ⟨by omega, by omega⟩, hk⟩]
  clear hr hi hj hk hcd
  go_enter Try.func19, Try.ntmps19
  go_wp2_with fail
  refine (HC.out _ (al w _)).mono ?_
  rintro e w1 ⟨rfl, hb1⟩
  have y0 := kp hb1 x0
  have y1 := kp hb1 x1
  have HB := Lib.hid (blw (al w _) hb1)
  clear hb1
  go_wp2_with fail
  refine (HIA.out _).mono ?_
  rintro e w2 ⟨rfl, rfl⟩
  go_wp2_with fail
  refine (HIB.out _).mono ?_
  rintro e w2 ⟨rfl, rfl⟩
  go_wp2_with fail
  refine (HID.out _).mono ?_
  rintro e w2 ⟨rfl, rfl⟩
  go_wp2
  go_ret
  exact ⟨rfl, HB.out⟩

def RF (l : List StepD) (n d a b t : Int) (w : World) (e : Ending) (w' : World) : Prop := e = .returned (.bool (fitB l n d a b t)) ∧ Below w.heap.size w w'
set_option maxHeartbeats 1600000 in
theorem rfits_any (l : List StepD) (hp : Prof l) (a b n d t : Int) (hb : b ≤ 1099511627775) (ha : 0 ≤ a) (hd : 0 ≤ d ∧ d ≤ 1099511627776) (ht : -10000000000000 ≤ t ∧ t ≤ 10000000000000) (A : Option Addr) (m c : Nat) (hm : l.length = m) (w : World) (h : Stp w A c l) :
    Calls Try.prog 23 #[.slice A m c, .agg #[.int .i64 a, .int .i64 b], .int .i64 n, .int .i64 d, .int .i64 t] w (RF l n d a b t w) := by
  unfold RF
  have HL := Lib.hid fun W (hW : Below w.heap.size w W) => rends_any l t (t + d) A m c hm W (h.below hW)
  obtain ⟨x0, x1⟩ := new2 w (.int .i64 a) (.int .i64 b) 28
  obtain ⟨r, hr1⟩ : ∃ r, fitB l n d a b t = r := ⟨_, rfl⟩
  rw [hr1]
  unfold fitB at hr1
  have hw : IntKind.i64.wrap (t + d) = t + d := IntWalk.i64_in _ (by omega)
  by_cases c1 : t < a
  case pos =>
    obtain rfl : r = false := by rw [← hr1, decide_eq_false (by omega)]; rfl
    clear h hm hr1 hp HL
    go_enter Try.func23, Try.ntmps23
    go_wp2
    go_ret
    exact ⟨rfl, al w _⟩
  rw [decide_eq_true (show a ≤ t by omega), Bool.true_and] at hr1
  by_cases c2 : b < t + d
  case pos =>
    obtain rfl : r = false := by rw [← hr1, decide_eq_false (by omega)]; rfl
    clear h hm hr1 hp HL
    go_enter Try.func23, Try.ntmps23
    go_wp2
    go_ret
    exact ⟨rfl, al w _⟩
  rw [decide_eq_true (show t + d ≤ b by omega), Bool.true_and] at hr1
  by_cases c3 : d = 0
  case pos =>
    obtain rfl : r = true := by rw [← hr1, decide_eq_true c3]; rfl
    subst c3
    clear h hm hr1 hp HL
    go_enter Try.func23, Try.ntmps23
    go_wp2
    go_ret
    exact ⟨rfl, al w _⟩
  rw [decide_eq_false c3, Bool.false_or] at hr1
  have hE := end_ok hp (a := t) (b := t + d) (by omega) (by omega) (by omega)
  rw [hE] at HL
  obtain ⟨v, hv⟩ : ∃ v, minV l t (t + d) = v := ⟨_, rfl⟩
  rw [hv] at HL hr1
  have c3b : (d == 0) = false := by rw [beq_eq_false_iff_ne]; exact c3
  subst hr1
  clear h hm hp hE hv
  go_enter Try.func23, Try.ntmps23
  go_wp2_with fail
  refine (HL.out _ (al w _)).mono ?_
  rintro e w3 ⟨rfl, hb3⟩
  have HB3 := Lib.hid (blw (al w _) hb3)
  clear hb3
  go_wp2
  go_ret
  exact ⟨rfl, HB3.out⟩
end Go.Proofs.Ytldmkbmkjdnaaaa.Ft

