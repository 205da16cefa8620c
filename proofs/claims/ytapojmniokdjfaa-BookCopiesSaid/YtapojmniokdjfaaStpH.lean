/- Layer 9: what is in order is not sorted anew; Tidy of steps in order. -/
import Derived.Test.YtapojmniokdjfaaStpC
import Derived.Lib.SliceRun
namespace Go.Proofs.Ytapojmniokdjfaa.Stp
open Go.RowKit Go.Shelf
set_option linter.unusedVariables false
set_option maxRecDepth 100000

def cmpV (x y : Int) : Int := if x < y then -1 else if y < x then 1 else 0
theorem nan_any (x : Int) (w : World) : Calls Try.prog 49 #[.int .i64 x] w fun e w' => e = .returned (.bool false) ∧ w = w' := by
  have hx : (x != x) = false := by simp
  go_enter Try.func49, Try.ntmps49
  go_wp2
  go_ret
  exact ⟨by simp, rfl⟩
theorem compare_any (x y : Int) (w : World) : Calls Try.prog 30 #[.int .i64 x, .int .i64 y] w fun e w' => e = .returned (.int .i64 (cmpV x y)) ∧ w = w' := by
  have hx := fun (W : World) => nan_any x W
  have hy := fun (W : World) => nan_any y W
  obtain ⟨v, hv⟩ : ∃ v, cmpV x y = v := ⟨_, rfl⟩
  rw [hv]
  unfold cmpV at hv
  by_cases h1 : x < y
  · rw [if_pos h1] at hv
    subst hv
    go_enter Try.func30, Try.ntmps30
    go_wp2_with fail
    refine (hx _).mono ?_
    rintro e w1 ⟨rfl, rfl⟩
    go_wp2_with fail
    refine (hy _).mono ?_
    rintro e w1 ⟨rfl, rfl⟩
    go_wp2
    go_ret
    exact ⟨rfl, rfl⟩
  · rw [if_neg h1] at hv
    by_cases h2 : y < x
    · rw [if_pos h2] at hv
      subst hv
      go_enter Try.func30, Try.ntmps30
      go_wp2_with fail
      refine (hx _).mono ?_
      rintro e w1 ⟨rfl, rfl⟩
      go_wp2_with fail
      refine (hy _).mono ?_
      rintro e w1 ⟨rfl, rfl⟩
      go_wp2
      go_ret
      exact ⟨rfl, rfl⟩
    · rw [if_neg h2] at hv
      subst hv
      go_enter Try.func30, Try.ntmps30
      go_wp2_with fail
      refine (hx _).mono ?_
      rintro e w1 ⟨rfl, rfl⟩
      go_wp2_with fail
      refine (hy _).mono ?_
      rintro e w1 ⟨rfl, rfl⟩
      go_wp2
      go_ret
      exact ⟨rfl, rfl⟩
theorem tcmp_any (s u : StepD) (w : World) : Calls Try.prog 57 #[.agg #[.int .i64 s.at_, .int .i64 s.fr], .agg #[.int .i64 u.at_, .int .i64 u.fr]] w fun e w' => e = .returned (.int .i64 (cmpV s.at_ u.at_)) ∧ Below w.heap.size w w' := by
  have hx := fun (W : World) => compare_any s.at_ u.at_ W
  go_enter Try.func57, Try.ntmps57
  go_wp2_with fail
  refine (hx _).mono ?_
  rintro e w1 ⟨rfl, rfl⟩
  go_wp2
  go_ret
  exact ⟨rfl, blw (al _ _) (al _ _)⟩
def Asc (l : List StepD) : Prop := ∀ (i : Nat) (s u : StepD), l[i]? = some s → l[i + 1]? = some u → s.at_ ≤ u.at_
theorem Stp.flat_cell {w : World} {b off c : Nat} {l : List StepD} (h : Stp w (some ⟨b, off, none⟩) c l) : ∀ j u, (flat l)[j]? = some u → w.cell? ⟨b, off + j, none⟩ = some u := by
  intro j u hj
  have hl := (List.getElem?_eq_some_iff.1 hj).1
  rw [flat_len] at hl
  obtain ⟨b2, o2, s, e, hs, h0, h1⟩ := h.lt (k := j / 2) (by omega)
  injection e with e
  injection e with e1 e2
  subst e1 e2
  obtain ⟨f0, f1⟩ := flat_0 hs
  rcases Nat.mod_two_eq_zero_or_one j with q | q
  · have ej : j = j / 2 * 2 := by omega
    rw [ej] at hj ⊢
    rw [f0] at hj
    injection hj with hj
    subst hj
    exact h0
  · have ej : j = j / 2 * 2 + 1 := by omega
    rw [ej] at hj ⊢
    rw [f1] at hj
    injection hj with hj
    subst hj
    exact h1
theorem flat_one : ∀ (l : List StepD), ∀ u ∈ flat l, u.oneCell' = true
  | [], u, h => by cases h
  | s :: l, u, h => by
    simp only [flat, List.mem_cons] at h
    rcases h with rfl | rfl | h
    · rfl
    · rfl
    · exact flat_one l u h
set_option maxHeartbeats 1600000 in
theorem ins_any (l : List StepD) (ha : Asc l) (b0 o0 n c : Nat) (hn : l.length = n) (hb : n ≤ 20) (w : World) (h : Stp w (some ⟨b0, o0, none⟩) c l) :
    Calls Try.prog 90 #[.slice (some ⟨b0, o0, none⟩) n c, .int .i64 0, .int .i64 n, .func (.func 57) #[] #[]] w fun e w' => e = .returned (.tuple #[]) ∧ Below w.heap.size w w' := by
  have H := Lib.hid h; have HN := Lib.hid hn; have HA := Lib.hid ha
  clear h hn ha
  go_enter Try.func90, Try.ntmps90
  go_wp2_with fail
  go_loopw [8] (fun vi wr => ∃ i : Nat, 1 ≤ i ∧ (i ≤ n ∨ i = 1) ∧ vi = .int .i64 i ∧ Hid (Below w.heap.size w wr)) (fun vi _ => n + 1 - (intOf vi).toNat)
  case atStart => exact ⟨1, Nat.le_refl _, Or.inr rfl, rfl, Lib.hid (Below.refl _ _)⟩
  case round =>
    obtain ⟨wA, rfl⟩ : ∃ x, x = wr := ⟨wr, rfl⟩
    obtain ⟨i, hi1, hi2, rfl, HX⟩ := hrel
    by_cases hlt : i < n
    · obtain ⟨q, hq⟩ : ∃ q, i = q + 1 := ⟨i - 1, by omega⟩
      obtain ⟨b, off, s, eA, hs, c0, c1⟩ := (H.out.below HX.out).lt (k := i) (by rw [HN.out]; exact hlt)
      injection eA with eA; injection eA with e1 e2; subst e1 e2
      obtain ⟨b, off, u, eA, hu, d0, d1⟩ := (H.out.below HX.out).lt (k := q) (by rw [HN.out]; omega)
      injection eA with eA; injection eA with e1 e2; subst e1 e2
      have hle : u.at_ ≤ s.at_ := HA.out q u s hu (by rw [← hq]; exact hs)
      obtain ⟨v, hv⟩ : ∃ v, cmpV s.at_ u.at_ = v := ⟨_, rfl⟩
      have hv0 : ¬ v < 0 := by
        rw [← hv]; unfold cmpV
        rw [if_neg (by omega)]
        by_cases e : u.at_ < s.at_
        · rw [if_pos e]; omega
        · rw [if_neg e]; omega
      have HC := Lib.hid fun (W : World) => tcmp_any s u W
      rw [hv] at HC
      have hi0 : 0 < i := by omega
      have hqn : q < n := by omega
      have hwq : IntKind.i64.wrap ((i : Int) - 1) = (q : Int) := by rw [IntWalk.i64_in _ (by omega)]; omega
      have HQ := Lib.hid hq
      clear hs hu hle hv hq
      go_wp2
      go_loopw [9] (fun vj wr => vj = .int .i64 i ∧ wr = wA) (fun vj _ => 0)
      case atStart => exact ⟨rfl, rfl⟩
      case round =>
        obtain ⟨rfl, rfl⟩ := hrel
        go_wp2_with fail
        have s0 : wr.drew.cell? ⟨b0, o0 + i * 2, none⟩ = some (.int .i64 s.at_) ∧ wr.drew.cell? ⟨b0, o0 + i * 2 + 1, none⟩ = some (.int .i64 s.fr) ∧ wr.drew.cell? ⟨b0, o0 + q * 2, none⟩ = some (.int .i64 u.at_) ∧ wr.drew.cell? ⟨b0, o0 + q * 2 + 1, none⟩ = some (.int .i64 u.fr) := ⟨kp (dr wr) c0, kp (dr wr) c1, kp (dr wr) d0, kp (dr wr) d1⟩
        go_region_held3 (fun (W : World) => W.cell? ⟨b0, o0 + i * 2, none⟩ = some (.int .i64 s.at_) ∧ W.cell? ⟨b0, o0 + i * 2 + 1, none⟩ = some (.int .i64 s.fr) ∧ W.cell? ⟨b0, o0 + q * 2, none⟩ = some (.int .i64 u.at_) ∧ W.cell? ⟨b0, o0 + q * 2 + 1, none⟩ = some (.int .i64 u.fr)) (first | exact s1 | exact s0) (first
          | (go_at_call 57; refine (HC.out _).mono ?_; rintro e x1 ⟨rfl, hb1⟩; have s1 : x1.cell? ⟨b0, o0 + i * 2, none⟩ = some (.int .i64 s.at_) ∧ x1.cell? ⟨b0, o0 + i * 2 + 1, none⟩ = some (.int .i64 s.fr) ∧ x1.cell? ⟨b0, o0 + q * 2, none⟩ = some (.int .i64 u.at_) ∧ x1.cell? ⟨b0, o0 + q * 2 + 1, none⟩ = some (.int .i64 u.fr) := ⟨kp hb1 s0.1, kp hb1 s0.2.1, kp hb1 s0.2.2.1, kp hb1 s0.2.2.2⟩; have HQ1 : Hid (Below w.heap.size w x1) := Lib.hid (blw (blw HX.out (dr wr)) hb1); clear hb1))
        all_goals
          go_wp2
          go_roundw
          case rel => exact ⟨i + 1, by omega, by omega, by go_num, HQ1⟩
          case measure => simp [intOf]; omega
    · go_wp2
      go_end0
      exact ⟨rfl, HX.out⟩
theorem clone_any (l : List StepD) (b off n c : Nat) (hn : l.length = n) (hb : n ≤ 1000) (w : World) (h : Stp w (some ⟨b, off, none⟩) c l) :
    Calls Try.prog 33 #[.slice (some ⟨b, off, none⟩) n c] w (RetP w.heap.size l w) := by
  obtain ⟨i0, hi0, hz0, hz1, hz2⟩ := info_parts info_step
  have HI0 := Lib.hid hi0; have HZ0 := Lib.hid hz0; have HZ1 := Lib.hid hz1; have HZ2 := Lib.hid hz2
  have hfl := flat_len l
  rw [hn] at hfl
  have HS := Lib.hid h; have HN := Lib.hid hn; have HFL := Lib.hid hfl
  have q22 : ∀ (w : World) (a : Option Addr) (n c n' c' : Nat), (binOp .eql 38 (.slice a n c) (.slice none n' c')).run Try.prog w = .ok (.bool a.isNone) w := fun w a n c n' c' => Lib.run_eql_slice_nil w _ _ a n c n' c' Try.underlying38
  clear hi0 hz0 hz1 hz2 h hn hfl
  go_enter Try.func33, Try.ntmps33
  go_wp2_with (at_builtin; refine wpList_append_own_at _ rfl _ _ 38 rfl w.heap.size 58 i0 (.agg #[.int .i64 0, .int .i64 0]) 2 16 Try.underlying38 HI0.out HZ0.out HZ1.out HZ2.out rfl (by decide) (.slice (some ⟨w.heap.size, 0, none⟩) 0 0) 0 [] rfl (World.ownsRow_made w #[] 0 (Nat.le_refl _) (Nat.zero_le _) (by simp)) ⟨b, off, none⟩ n c (flat l) rfl (by rw [HFL.out]) (fun j u hu => (by rw [Go.WideShapes.add_plain]; exact kp (al w (.cells #[] 58)) (HS.out.flat_cell j u hu))) (flat_one l) (by simp only [maxLen]; omega) (by omega) (by simp) ?_; intro v9 w9 ho9 hg9 _ hb9; rw [Nat.zero_add, List.nil_append] at ho9; have ho : OwnS w9 w.heap.size v9 l := (by unfold OwnS; rw [HN.out]; exact ho9); obtain ⟨A9, c9, e9, hs9⟩ := ho.slice; subst e9; have HO := Lib.hid ho; have HB : Hid (Below w.heap.size w w9) := Lib.hid (((al w (.cells #[] 58))).grown hg9 (by simp) (fun k hk => by injection hk with hk; subst hk; exact Nat.le_refl _)); clear ho9 hg9 hb9 ho hs9)
  go_wp2
  go_ret
  exact ⟨A9, c9, rfl, HO.out, HB.out⟩
set_option maxHeartbeats 800000 in
theorem stable_any (l : List StepD) (ha : Asc l) (b0 o0 n c : Nat) (hn : l.length = n) (hb : n < 20) (w : World) (h : Stp w (some ⟨b0, o0, none⟩) c l) :
    Calls Try.prog 79 #[.slice (some ⟨b0, o0, none⟩) n c, .int .i64 n, .func (.func 57) #[] #[]] w fun e w' => e = .returned (.tuple #[]) ∧ Below w.heap.size w w' := by
  have HI := Lib.hid (ins_any l ha b0 o0 n c hn (by omega) w h)
  clear h hn ha
  go_enter Try.func79, Try.ntmps79
  go_wp2
  go_loopw [7, 8] (fun va vb wr => va = .int .i64 0 ∧ vb = .int .i64 20 ∧ wr = w) (fun _ _ _ => 0)
  case atStart => exact ⟨rfl, rfl, rfl⟩
  case round =>
    obtain ⟨rfl, rfl, rfl⟩ := hrel
    go_wp2_with fail
    refine HI.out.mono ?_
    rintro e w1 ⟨rfl, hb1⟩
    have HB := Lib.hid hb1
    clear hb1
    go_wp2
    go_loopw [6] (fun vb wr => vb = .int .i64 20 ∧ wr = w1) (fun _ _ => 0)
    case atStart => exact ⟨rfl, rfl⟩
    case round =>
      obtain ⟨rfl, rfl⟩ := hrel
      go_wp2
      go_end0
      exact ⟨rfl, HB.out⟩
theorem sort_any (l : List StepD) (ha : Asc l) (b0 o0 n c : Nat) (hn : l.length = n) (hb : n < 20) (w : World) (h : Stp w (some ⟨b0, o0, none⟩) c l) :
    Calls Try.prog 56 #[.slice (some ⟨b0, o0, none⟩) n c, .func (.func 57) #[] #[]] w fun e w' => e = .returned (.tuple #[]) ∧ Below w.heap.size w w' := by
  have HI := Lib.hid (stable_any l ha b0 o0 n c hn (by omega) w h)
  clear h hn ha
  go_enter Try.func56, Try.ntmps56
  go_wp2_with fail
  refine HI.out.mono ?_
  rintro e w1 ⟨rfl, hb1⟩
  go_wp2
  go_end0
  exact ⟨rfl, hb1⟩

/-- of those of one time the last; none that changes nothing -/
def tdF : List StepD → List StepD → List StepD
  | out, [] => out
  | out, [s] => putD out s
  | out, s :: u :: l => if u.at_ = s.at_ then tdF out (u :: l) else tdF (putD out s) (u :: l)
set_option maxHeartbeats 1600000 in
theorem tidyP_any (l : List StepD) (ha : Asc l) (b0 o0 n c : Nat) (hn : l.length = n) (hn0 : 0 < n) (hb : n < 20) (w : World) (h : Stp w (some ⟨b0, o0, none⟩) c l) :
    Calls Try.prog 40 #[.slice (some ⟨b0, o0, none⟩) n c] w (RetP w.heap.size (tdF [] l) w) := by
  obtain ⟨R, hR⟩ : ∃ R, tdF [] l = R := ⟨_, rfl⟩
  rw [hR]
  have HC := Lib.hid (clone_any l b0 o0 n c hn (by omega) w h)
  have HSO := Lib.hid fun (b1 o1 c1 : Nat) (W : World) (hs : Stp W (some ⟨b1, o1, none⟩) c1 l) => sort_any l ha b1 o1 n c1 hn (by omega) W hs
  have HR := Lib.hid hR; have HN := Lib.hid hn
  clear h hR ha
  go_enter Try.func40, Try.ntmps40
  go_wp2_with fail
  refine HC.out.mono ?_
  rintro e w1 ⟨A1, c1, rfl, ho1, hb1⟩
  obtain ⟨_, hs1⟩ := ho1.stp
  rw [hn]
  obtain ⟨b1, o1, s0, eA, _, _, _⟩ := hs1.lt (k := 0) (by omega)
  subst eA
  have HB1 := Lib.hid hb1; have HS1 := Lib.hid hs1
  clear ho1 hb1 hs1 hn
  go_wp2_with fail
  refine (HSO.out _ _ _ _ HS1.out).mono ?_
  rintro e w2 ⟨rfl, hb2⟩
  have HB2 := Lib.hid (blw HB1.out hb2); have HS2 := Lib.hid (HS1.out.below hb2)
  clear hb2
  go_wp2
  go_loopw [4, 13] (fun vo vi wr => ∃ (k : Nat) (out : List StepD) (O : Option Addr) (co : Nat), k ≤ n ∧ out.length ≤ k ∧ vi = .int .i64 k ∧ vo = .slice O out.length co ∧ Hid (OwnS wr w2.heap.size (.slice O out.length co) out) ∧ Hid (Below w2.heap.size w2 wr) ∧ Hid (tdF out (l.drop k) = R)) (fun _ vi _ => n - (intOf vi).toNat)
  case atStart => exact ⟨0, [], none, 0, Nat.zero_le _, Nat.le_refl _, rfl, rfl, Lib.hid (OwnS.nil _ _), Lib.hid (Below.refl _ _), HR⟩
  case round =>
    obtain ⟨k, out, O, co, hk, hok, rfl, rfl, HO, HX, HT⟩ := hrel
    by_cases hlt : k < n
    · obtain ⟨b, off, s, eA, hs, c0, d0⟩ := (HS2.out.below HX.out).lt (k := k) (by rw [HN.out]; exact hlt)
      injection eA with eA; injection eA with e1 e2; subst e1 e2
      have hd : l.drop k = s :: l.drop (k + 1) := by
        rw [List.drop_eq_getElem_cons (by rw [HN.out]; exact hlt), (List.getElem?_eq_some_iff.1 hs).2]
      have ht := HT.out
      rw [hd] at ht
      have HXA : Hid (Below w2.heap.size w2 (wr.alloc (.cells #[.int .i64 s.at_, .int .i64 s.fr] 58))) := Lib.hid (blw HX.out (al _ _))
      have HOA := Lib.hid (HO.out.below (al wr (.cells #[.int .i64 s.at_, .int .i64 s.fr] 58)))
      obtain ⟨x3, x4⟩ := new2 wr (.int .i64 s.at_) (.int .i64 s.fr) 58
      have hln := put_len out s
      by_cases hlast : k + 1 = n
      · have ht2 : tdF (putD out s) (l.drop (k + 1)) = R := by
          rw [← ht, show l.drop (k + 1) = [] from List.drop_eq_nil_of_le (by rw [HN.out]; omega)]; rfl
        have HT2 := Lib.hid ht2
        have hkb : ((k : Int) + 1 == (n : Int)) = true := by rw [beq_iff_eq]; omega
        have hnk : (n : Int) = (k : Int) + 1 := by omega
        have HL := Lib.hid hlast
        clear hs hd ht ht2 hlast hnk HT
        go_wp2_with fail
        generalize wr.alloc (.cells #[.int .i64 s.at_, .int .i64 s.fr] 58) = W3 at HXA HOA x3 x4 ⊢
        generalize wr.heap.size = tb at x3 x4 ⊢
        go_quiet (fail)
        have y3 := kp (drN W3 nq) x3; have y4 := kp (drN W3 nq) x4
        have HXB := Lib.hid (blw HXA.out (drN W3 nq)); have HOB := Lib.hid (HOA.out.below (drN W3 nq))
        generalize W3.drewN nq = W4 at y3 y4 HXB HOB ⊢
        clear x3 x4 HXA HOA
        go_wp2_with fail
        refine (put_any out s w2.heap.size O out.length co W4 HOB.out HXB.out.size (by omega)).mono ?_
        rintro e w5 ⟨O3, co3, rfl, ho3, hb3⟩
        have HO3 := Lib.hid ho3; have HB3 := Lib.hid (HXB.out.trans hb3)
        clear ho3 hb3
        go_wp2
        go_roundw
        case rel => exact ⟨k + 1, putD out s, _, _, by omega, by omega, by go_num, rfl, HO3, HB3, HT2⟩
        case measure => simp [intOf]; omega
      · obtain ⟨b, off, u, eA, hu, c2, d2⟩ := (HS2.out.below HX.out).lt (k := k + 1) (by rw [HN.out]; omega)
        injection eA with eA; injection eA with e1 e2; subst e1 e2
        have hd2 : l.drop (k + 1) = u :: l.drop (k + 1 + 1) := by
          rw [List.drop_eq_getElem_cons (by rw [HN.out]; omega), (List.getElem?_eq_some_iff.1 hu).2]
        have hkb : ((k : Int) + 1 == (n : Int)) = false := by rw [beq_eq_false_iff_ne]; omega
        have hk1 : k + 1 < n := by omega
        have c3 := kp (al wr (.cells #[.int .i64 s.at_, .int .i64 s.fr] 58)) c2
        rw [hd2] at ht
        by_cases hat : u.at_ = s.at_
        · have ht2 : tdF out (l.drop (k + 1)) = R := by
            rw [hd2, ← ht]
            show _ = (if u.at_ = s.at_ then _ else _)
            rw [if_pos hat]
          have HT2 := Lib.hid ht2
          rw [hat] at c3
          have hab : (s.at_ != s.at_) = false := by simp
          clear hs hu hd hd2 ht ht2 HT hat c2
          go_wp2_with fail
          generalize wr.alloc (.cells #[.int .i64 s.at_, .int .i64 s.fr] 58) = W3 at HXA HOA x3 x4 c3 ⊢
          generalize wr.heap.size = tb at x3 x4 ⊢
          go_quiet (fail)
          go_wp2
          go_roundw
          case rel => exact ⟨k + 1, out, O, co, by omega, by omega, by go_num, rfl, Lib.hid (HOA.out.below (drN _ _)), Lib.hid (blw HXA.out (drN _ _)), HT2⟩
          case measure => simp [intOf]; omega
        · have ht2 : tdF (putD out s) (l.drop (k + 1)) = R := by
            rw [hd2, ← ht]
            show _ = (if u.at_ = s.at_ then _ else _)
            rw [if_neg hat]
          have HT2 := Lib.hid ht2
          have hab : (u.at_ != s.at_) = true := by rw [bne_iff_ne]; exact hat
          clear hs hu hd hd2 ht ht2 HT hat c2
          go_wp2_with fail
          generalize wr.alloc (.cells #[.int .i64 s.at_, .int .i64 s.fr] 58) = W3 at HXA HOA x3 x4 c3 ⊢
          generalize wr.heap.size = tb at x3 x4 ⊢
          go_quiet (fail)
          have y3 := kp (drN W3 nq) x3; have y4 := kp (drN W3 nq) x4
          have HXB := Lib.hid (blw HXA.out (drN W3 nq)); have HOB := Lib.hid (HOA.out.below (drN W3 nq))
          generalize W3.drewN nq = W4 at y3 y4 HXB HOB ⊢
          clear x3 x4 HXA HOA
          go_wp2_with fail
          refine (put_any out s w2.heap.size O out.length co W4 HOB.out HXB.out.size (by omega)).mono ?_
          rintro e w5 ⟨O3, co3, rfl, ho3, hb3⟩
          have HO3 := Lib.hid ho3; have HB3 := Lib.hid (HXB.out.trans hb3)
          clear ho3 hb3
          go_wp2
          go_roundw
          case rel => exact ⟨k + 1, putD out s, _, _, by omega, by omega, by go_num, rfl, HO3, HB3, HT2⟩
          case measure => simp [intOf]; omega
    · obtain rfl : k = n := by omega
      have hr : out = R := by
        have := HT.out
        rw [show l.drop k = [] from List.drop_eq_nil_of_le (by rw [HN.out]; exact Nat.le_refl _)] at this
        exact this
      subst hr
      go_wp2
      go_ret
      exact ⟨O, co, rfl, HO.out.rebase HB2.out.size, blw HB2.out HX.out⟩
end Go.Proofs.Ytapojmniokdjfaa.Stp

