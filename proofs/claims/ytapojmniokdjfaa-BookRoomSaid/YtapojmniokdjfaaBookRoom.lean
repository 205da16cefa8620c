/- BookRoom: for any numbers, and any list of things that are done, the law returns true, and all read afterwards as before. No condition. -/
import Derived.Test.YtapojmniokdjfaaRows
import Derived.Test.YtapojmniokdjfaaBkDone
import Derived.WalkKit
import Derived.ProofKit
import Derived.OpenShut
import Derived.ShutString
import Derived.ChangeOld
import Derived.Below
namespace Go.Proofs.Ytapojmniokdjfaa
open Go.ChangeShapes Go.WideShapes Go.ChangeAt Go.RowKit
open Stp (blw al dr drN kp Stp.below RetP at_any rsame_any sameB sameB_iff inW)
open Bk
set_option linter.unusedVariables false
theorem below_wr {w w1 w2 : World} {g m : Nat} (hb : Below w.heap.size w w1) (hw : Wr (GB g m) w1 w2) (hg : w.heap.size ≤ g) (hm : w.heap.size ≤ m) : Below w.heap.size w w2 := hb.trans (hw.below hb.size (by rintro b (rfl | rfl) <;> assumption))
theorem atV_prof {F : List StepD} {t : Int} (hp : Prof F) (ht : 0 ≤ t ∧ t ≤ 1099511627775) : atV F t = valF 0 F t := by
  unfold atV
  rw [if_pos ⟨chkD_prof.2 hp, Clk.isT_yes ht.1 ht.2⟩]
theorem check_prof {F : List StepD} (hp : Prof F) : chkE F = 0 := by unfold chkE; rw [if_pos (chkD_prof.2 hp)]
theorem riseI_lt : ∀ {l : List SlotD} {lo : Int} {a b : Nat} {x y : SlotD}, RiseI lo l → l[a]? = some x → l[b]? = some y → a < b → x.id < y.id
  | [], _, _, _, _, _, _, h, _, _ => by simp at h
  | s :: l, lo, 0, b + 1, x, y, ⟨h1, h2⟩, hx, hy, _ => by
    simp at hx hy
    subst hx
    exact h2.gt y (List.mem_of_getElem? hy)
  | s :: l, lo, a + 1, b + 1, x, y, ⟨h1, h2⟩, hx, hy, h => riseI_lt h2 (by simpa using hx) (by simpa using hy) (by omega)
  | s :: l, lo, a, 0, x, y, _, _, _, h => by omega
set_option maxRecDepth 100000 in
set_option maxHeartbeats 12800000 in
theorem walk_BookRoom (w : World) (n : Int) (wn : (Lit.int .u8 n).wf = true) (A : Option Addr) (c : Nat) (l : List DoD) (h : Dos w A c l) (t : Int) :
    Calls Try.prog 3 #[.int .u8 n, .slice A l.length c, .int .i64 t] w fun e w' => e = .returned (.bool true) ∧ Below w.heap.size w w' := by
  have HK := Lib.hid known_any
  have hnb := u8b wn
  obtain ⟨ln, hln⟩ : ∃ ln, l.length = ln := ⟨_, rfl⟩
  have hlm : ln ≤ 9223372036854775807 := by rw [← hln]; exact Nat.le_trans h.cap (by have := h.top; simpa [maxLen] using this)
  rw [hln]
  clear wn
  by_cases h1 : 60 < ln
  · clear h hln
    go_enter Try.func3, Try.ntmps3
    go_wp2_with fail
    refine (HK.out _).mono ?_
    rintro e w' ⟨rfl, hw⟩
    go_wp2
    go_ret
    exact ⟨rfl, hw⟩
  by_cases h2 : t < 0
  · clear h hln
    go_enter Try.func3, Try.ntmps3
    go_wp2_with fail
    refine (HK.out _).mono ?_
    rintro e w' ⟨rfl, hw⟩
    go_wp2
    go_ret
    exact ⟨rfl, hw⟩
  by_cases h3 : 1099511627775 < t
  · clear h hln
    go_enter Try.func3, Try.ntmps3
    go_wp2_with fail
    refine (HK.out _).mono ?_
    rintro e w' ⟨rfl, hw⟩
    go_wp2
    go_ret
    exact ⟨rfl, hw⟩
  have htb : 0 ≤ t ∧ t ≤ 1099511627775 := by omega
  have hl40 : ln ≤ 60 := by omega
  obtain ⟨N, hN⟩ : ∃ N, 1 + n = N := ⟨_, rfl⟩
  have HN1 : Hid (1 ≤ N ∧ N ≤ 10000) := Lib.hid (by omega)
  have HN := Lib.hid fun (W : World) => newb_yes N HN1.out W
  have HD := Lib.hid h
  have HLN := Lib.hid hln
  clear h hln
  go_enter Try.func3, Try.ntmps3
  go_wp2_with fail
  try rw [hN]
  refine (HN.out _).mono ?_
  rintro e w1 ⟨g, m, rfl, hB1, hg, hm, hb1⟩
  have HB1 := Lib.hid hb1; have HM1 := Lib.hid hB1; have HGM := Lib.hid (And.intro hg hm)
  clear hb1 hB1 hg hm hN
  go_wp2_with fail
  go_loopw [10, 11] (fun vo vi wr => ∃ (i : Nat) (o : Bool) (F : List StepD) (L : List SlotD) (T : List Int), i ≤ ln ∧ vo = .bool o ∧ vi = .int .i64 i ∧ Hid (o = false → ∀ t, 0 ≤ t → valF 0 F t + takV L t = N) ∧ Hid (BkI N F L T i) ∧ Hid (∀ s ∈ L, (Lit.int .i64 s.id).wf = true) ∧ Hid (BookM wr g m N F L) ∧ Hid (Wr (GB g m) w1 wr)) (fun _ vi _ => ln - (intOf vi).toNat)
  case atStart => exact ⟨0, false, _, _, [], Nat.zero_le _, rfl, rfl, Lib.hid (fun _ t ht => by rw [one_valB ht]; simp only [takV]; omega), Lib.hid (BkI.new HN1.out), Lib.hid (fun s hs => by cases hs), HM1, Lib.hid (Wr.refl _ _)⟩
  case round =>
    obtain ⟨i, o, F, L, T, hi, rfl, rfl, HO, HI, HWF, HM, HW⟩ := hrel
    by_cases hlt : i < ln
    · obtain ⟨d, hd⟩ : ∃ d, l[i]? = some d := ⟨_, List.getElem?_eq_getElem (by rw [HLN.out]; exact hlt)⟩
      obtain ⟨b, off, eA, c0, c1, c2, c3, c4⟩ := (HD.out.below (below_wr HB1.out HW.out HGM.out.1 HGM.out.2)).cells i d hd
      subst eA
      have HKI := Lib.hid hi
      have hiq : i ≤ 100 := by omega
      have HDN := Lib.hid (done_any d (HD.out.wf d (List.mem_of_getElem? hd)) wr g m N F L T i HI.out hiq HWF.out HM.out)
      have HD0 := Lib.hid (And.intro c0 (below_wr HB1.out HW.out HGM.out.1 HGM.out.2))
      have HDW := Lib.hid fun (W : World) (hW : Wr (GB g m) w1 W) => (HD.out.below (below_wr HB1.out hW HGM.out.1 HGM.out.2)).cells i d hd
      clear hd
      go_wp2_with fail
      refine HDN.out.mono ?_
      rintro e w2 ⟨A2, c2', ids, e0, F', L', rfl, hO, _, _, hB2, hW2⟩
      obtain ⟨T', hI'⟩ := hO.inv
      have HI' := Lib.hid hI'; have HWF' := Lib.hid hO.wf; have HM2 := Lib.hid hB2; have HW2' := Lib.hid (HW.out.trans hW2)
      have HV' := Lib.hid hO.val
      obtain ⟨b', off', eA', z0, _⟩ := HDW.out w2 HW2'.out
      injection eA' with eA'
      injection eA' with eb eo
      subst eb eo
      clear hO hI' hB2 hW2 c0 c1 c2 c3 c4
      have hor : o = true ∨ o = false := by cases o <;> simp
      have HCH := Lib.hid fun (A : Option Addr) (x : Nat) (W : World) (hs : Stp.Stp W A x F') => Stp.check_any F' A F'.length x rfl W hs
      rw [check_prof HI'.out.prof] at HCH
      have HAT := Lib.hid fun (A : Option Addr) (x : Nat) (W : World) (hs : Stp.Stp W A x F') => at_any F' t A F'.length x rfl W hs
      rw [atV_prof HI'.out.prof htb] at HAT
      have HST := Lib.hid fun (W : World) (hb : BookM W g m N F' L') => steps_any W g m N F' L' HI'.out.prof (by have := HI'.out.len; omega) hb
      have HSL := Lib.hid fun (W : World) (hb : BookM W g m N F' L') => slots_any W g m N F' L' HI'.out.rise (by have := HI'.out.ll; omega) hb
      have HTOP := Lib.hid (HI'.out.top t htb.1)
      have HFB := Lib.hid (HI'.out.prof.bd htb.1)
      obtain ⟨v, hv⟩ : ∃ v, valF 0 F' t = v := ⟨_, rfl⟩
      rw [hv] at HAT HTOP HFB
      have HVV := Lib.hid hv
      clear hv
      rcases hor with rfl | rfl
      · go_wp2_with fail
        refine (HSL.out _ HM2.out).mono ?_
        rintro e w3 ⟨A3, c3, rfl, hs3, hb3⟩
        have HS3 := Lib.hid hs3
        have HM3 := Lib.hid (HM2.out.below hb3); have HW3 := Lib.hid (HW2'.out.trans (Wr.of_below (S := GB g m) hb3))
        clear hs3 hb3 z0
        go_wp2_with fail
        refine (HST.out _ HM3.out).mono ?_
        rintro e w4 ⟨A4, c4, rfl, ho4, hb4⟩
        have HS4 := Lib.hid ho4.stp.2
        have HM4 := Lib.hid (HM3.out.below hb4); have HW4 := Lib.hid (HW3.out.trans (Wr.of_below (S := GB g m) hb4)); have HS3b := Lib.hid (HS3.out.below hb4)
        clear ho4 hb4
        go_wp2_with fail
        refine (HAT.out _ _ _ HS4.out).mono ?_
        rintro e w5 ⟨rfl, hb5⟩
        have HM5 := Lib.hid (HM4.out.below hb5); have HW5 := Lib.hid (HW4.out.trans (Wr.of_below (S := GB g m) hb5)); have HS5 := Lib.hid (HS3b.out.below hb5)
        clear hb5
        obtain ⟨nl, hnl⟩ : ∃ nl, L'.length = nl := ⟨_, rfl⟩
        have HNL := Lib.hid hnl
        have hnl2 : nl ≤ 101 := by rw [← hnl]; have := HI'.out.ll; omega
        rw [hnl]
        clear hnl
        go_wp2_with fail
        go_loopw [15, 16] (fun vk vj wq => ∃ j : Nat, j ≤ nl ∧ vj = .int .i64 j ∧ vk = .int .i64 (v + takV (L'.take j) t) ∧ Hid (Below w5.heap.size w5 wq)) (fun _ vj _ => nl - (intOf vj).toNat)
        case atStart => exact ⟨0, Nat.zero_le _, rfl, by rw [List.take_zero]; simp [takV], Lib.hid (Below.refl _ _)⟩
        case round =>
          obtain ⟨j, hj, rfl, rfl, HQ⟩ := hrel
          by_cases hjl : j < nl
          · obtain ⟨b, off, s, eA, hs, hc4⟩ := (HS5.out.below HQ.out).lt (k := j) (by rw [HNL.out]; exact hjl)
            subst eA
            obtain ⟨x0, x1, x2, x3⟩ := hc4
            have htk : takV (L'.take (j + 1)) t = takV (L'.take j) t + inW s.fm s.to s.nd t := by rw [List.take_add_one, hs, Option.toList_some, tak_app]; simp [takV]
            have hso := HI'.out.ok s (List.mem_of_getElem? hs)
            have hb1 := hso.nd; have hb2 := HI'.out.n
            have hq0 : 0 ≤ takV (L'.take j) t := tak_pos _ fun u hu => by have := (HI'.out.ok u (List.mem_of_mem_take hu)).nd; omega
            have hq1 : takV (L'.take j) t ≤ 10000 * (L'.take j).length := tak_bd _ fun u hu => by have := (HI'.out.ok u (List.mem_of_mem_take hu)).nd; omega
            have hq2 : (L'.take j).length ≤ j := by simp; omega
            have hvb := HFB.out
            obtain ⟨p, hp⟩ : ∃ p, takV (L'.take j) t = p := ⟨_, rfl⟩
            rw [hp] at htk hq0 hq1 ⊢
            have HTK := Lib.hid htk
            have hq3 : p ≤ 1010000 := by omega
            clear hq1 hq2 hp htk
            by_cases j0 : j = 0
            · subst j0
              clear hs
              by_cases q1 : s.fm ≤ t
              · by_cases q2 : t < s.to
                · have hin : inW s.fm s.to s.nd t = s.nd := by unfold inW; rw [if_pos ⟨q1, q2⟩]
                  go_wp2_with fail
                  go_quiet (fail)
                  go_wp2
                  refine ⟨⟨0 + 1, by omega, by go_num, by rw [HTK.out, hin]; rw [Int.add_assoc], Lib.hid (blw HQ.out (drN _ _))⟩, ?_⟩
                  simp [intOf]; omega
                · have hin : inW s.fm s.to s.nd t = 0 := by unfold inW; rw [if_neg (by omega)]
                  go_wp2_with fail
                  go_quiet (fail)
                  go_wp2
                  refine ⟨⟨0 + 1, by omega, by go_num, by rw [HTK.out, hin]; rw [Int.add_zero], Lib.hid (blw HQ.out (drN _ _))⟩, ?_⟩
                  simp [intOf]; omega
              · have hin : inW s.fm s.to s.nd t = 0 := by unfold inW; rw [if_neg (by omega)]
                go_wp2_with fail
                go_quiet (fail)
                go_wp2
                refine ⟨⟨0 + 1, by omega, by go_num, by rw [HTK.out, hin]; rw [Int.add_zero], Lib.hid (blw HQ.out (drN _ _))⟩, ?_⟩
                simp [intOf]; omega
            · obtain ⟨q, rfl⟩ : ∃ q, j = q + 1 := ⟨j - 1, by omega⟩
              obtain ⟨b', off', r, eA', hr, hd4⟩ := (HS5.out.below HQ.out).lt (k := q) (by rw [HNL.out]; omega)
              injection eA' with eA'
              injection eA' with eb eo
              subst eb eo
              obtain ⟨y0, _⟩ := hd4
              have hrs := riseI_lt HI'.out.rise hr hs (Nat.lt_succ_self q)
              have hji : ((q + 1 : Nat) : Int) - 1 = (q : Int) := by omega
              clear hs hr
              by_cases q1 : s.fm ≤ t
              · by_cases q2 : t < s.to
                · have hin : inW s.fm s.to s.nd t = s.nd := by unfold inW; rw [if_pos ⟨q1, q2⟩]
                  go_wp2_with fail
                  go_quiet (fail)
                  go_wp2
                  refine ⟨⟨q + 1 + 1, by omega, by go_num, by rw [HTK.out, hin]; rw [Int.add_assoc], Lib.hid (blw HQ.out (drN _ _))⟩, ?_⟩
                  simp [intOf]; omega
                · have hin : inW s.fm s.to s.nd t = 0 := by unfold inW; rw [if_neg (by omega)]
                  go_wp2_with fail
                  go_quiet (fail)
                  go_wp2
                  refine ⟨⟨q + 1 + 1, by omega, by go_num, by rw [HTK.out, hin]; rw [Int.add_zero], Lib.hid (blw HQ.out (drN _ _))⟩, ?_⟩
                  simp [intOf]; omega
              · have hin : inW s.fm s.to s.nd t = 0 := by unfold inW; rw [if_neg (by omega)]
                go_wp2_with fail
                go_quiet (fail)
                go_wp2
                refine ⟨⟨q + 1 + 1, by omega, by go_num, by rw [HTK.out, hin]; rw [Int.add_zero], Lib.hid (blw HQ.out (drN _ _))⟩, ?_⟩
                simp [intOf]; omega
          · obtain rfl : j = nl := by omega
            have hkt : v + takV (L'.take j) t = v + takV L' t := by rw [List.take_of_length_le (by rw [HNL.out]; exact Nat.le_refl _)]
            rw [hkt]
            have htop := HTOP.out
            obtain ⟨K, hK⟩ : ∃ K, v + takV L' t = K := ⟨_, rfl⟩
            rw [hK] at htop ⊢
            have HKK := Lib.hid hK
            clear hK hkt
            have HM6 := Lib.hid (HM5.out.below HQ.out); have HW6 := Lib.hid (HW5.out.trans (Wr.of_below (S := GB g m) HQ.out))
            go_wp2_with fail
            refine (HST.out _ HM6.out).mono ?_
            rintro e w7 ⟨A7, c7, rfl, ho7, hb7⟩
            have HS7 := Lib.hid ho7.stp.2
            have HM7 := Lib.hid (HM6.out.below hb7); have HW7 := Lib.hid (HW6.out.trans (Wr.of_below (S := GB g m) hb7))
            clear ho7 hb7
            go_wp2_with fail
            refine (HCH.out _ _ _ HS7.out).mono ?_
            rintro e w8 ⟨rfl, hb8⟩
            have HM8 := Lib.hid (HM7.out.below hb8); have HW8 := Lib.hid (HW7.out.trans (Wr.of_below (S := GB g m) hb8))
            clear hb8
            go_wp2
            refine ⟨⟨i + 1, true, F', L', T', by omega, rfl, by go_num, Lib.hid (fun h => by cases h), HI', HWF', HM8, HW8⟩, ?_⟩
            simp [intOf]; omega
      · by_cases h5 : d.kd = 5
        · have hb5 : (d.kd == 5) = true := by rw [beq_iff_eq]; exact h5
          have H5 := Lib.hid h5
          clear h5
          by_cases h0 : e0 = 0
          · have hb0 : (e0 == 0) = true := by rw [beq_iff_eq]; exact h0
            clear h0
            go_wp2_with fail
            refine (HSL.out _ HM2.out).mono ?_
            rintro e w3 ⟨A3, c3, rfl, hs3, hb3⟩
            have HS3 := Lib.hid hs3
            have HM3 := Lib.hid (HM2.out.below hb3); have HW3 := Lib.hid (HW2'.out.trans (Wr.of_below (S := GB g m) hb3))
            clear hs3 hb3 z0
            go_wp2_with fail
            refine (HST.out _ HM3.out).mono ?_
            rintro e w4 ⟨A4, c4, rfl, ho4, hb4⟩
            have HS4 := Lib.hid ho4.stp.2
            have HM4 := Lib.hid (HM3.out.below hb4); have HW4 := Lib.hid (HW3.out.trans (Wr.of_below (S := GB g m) hb4)); have HS3b := Lib.hid (HS3.out.below hb4)
            clear ho4 hb4
            go_wp2_with fail
            refine (HAT.out _ _ _ HS4.out).mono ?_
            rintro e w5 ⟨rfl, hb5⟩
            have HM5 := Lib.hid (HM4.out.below hb5); have HW5 := Lib.hid (HW4.out.trans (Wr.of_below (S := GB g m) hb5)); have HS5 := Lib.hid (HS3b.out.below hb5)
            clear hb5
            obtain ⟨nl, hnl⟩ : ∃ nl, L'.length = nl := ⟨_, rfl⟩
            have HNL := Lib.hid hnl
            have hnl2 : nl ≤ 101 := by rw [← hnl]; have := HI'.out.ll; omega
            rw [hnl]
            clear hnl
            go_wp2_with fail
            go_loopw [15, 16] (fun vk vj wq => ∃ j : Nat, j ≤ nl ∧ vj = .int .i64 j ∧ vk = .int .i64 (v + takV (L'.take j) t) ∧ Hid (Below w5.heap.size w5 wq)) (fun _ vj _ => nl - (intOf vj).toNat)
            case atStart => exact ⟨0, Nat.zero_le _, rfl, by rw [List.take_zero]; simp [takV], Lib.hid (Below.refl _ _)⟩
            case round =>
              obtain ⟨j, hj, rfl, rfl, HQ⟩ := hrel
              by_cases hjl : j < nl
              · obtain ⟨b, off, s, eA, hs, hc4⟩ := (HS5.out.below HQ.out).lt (k := j) (by rw [HNL.out]; exact hjl)
                subst eA
                obtain ⟨x0, x1, x2, x3⟩ := hc4
                have htk : takV (L'.take (j + 1)) t = takV (L'.take j) t + inW s.fm s.to s.nd t := by rw [List.take_add_one, hs, Option.toList_some, tak_app]; simp [takV]
                have hso := HI'.out.ok s (List.mem_of_getElem? hs)
                have hb1 := hso.nd; have hb2 := HI'.out.n
                have hq0 : 0 ≤ takV (L'.take j) t := tak_pos _ fun u hu => by have := (HI'.out.ok u (List.mem_of_mem_take hu)).nd; omega
                have hq1 : takV (L'.take j) t ≤ 10000 * (L'.take j).length := tak_bd _ fun u hu => by have := (HI'.out.ok u (List.mem_of_mem_take hu)).nd; omega
                have hq2 : (L'.take j).length ≤ j := by simp; omega
                have hvb := HFB.out
                obtain ⟨p, hp⟩ : ∃ p, takV (L'.take j) t = p := ⟨_, rfl⟩
                rw [hp] at htk hq0 hq1 ⊢
                have HTK := Lib.hid htk
                have hq3 : p ≤ 1010000 := by omega
                clear hq1 hq2 hp htk
                by_cases j0 : j = 0
                · subst j0
                  clear hs
                  by_cases q1 : s.fm ≤ t
                  · by_cases q2 : t < s.to
                    · have hin : inW s.fm s.to s.nd t = s.nd := by unfold inW; rw [if_pos ⟨q1, q2⟩]
                      go_wp2_with fail
                      go_quiet (fail)
                      go_wp2
                      refine ⟨⟨0 + 1, by omega, by go_num, by rw [HTK.out, hin]; rw [Int.add_assoc], Lib.hid (blw HQ.out (drN _ _))⟩, ?_⟩
                      simp [intOf]; omega
                    · have hin : inW s.fm s.to s.nd t = 0 := by unfold inW; rw [if_neg (by omega)]
                      go_wp2_with fail
                      go_quiet (fail)
                      go_wp2
                      refine ⟨⟨0 + 1, by omega, by go_num, by rw [HTK.out, hin]; rw [Int.add_zero], Lib.hid (blw HQ.out (drN _ _))⟩, ?_⟩
                      simp [intOf]; omega
                  · have hin : inW s.fm s.to s.nd t = 0 := by unfold inW; rw [if_neg (by omega)]
                    go_wp2_with fail
                    go_quiet (fail)
                    go_wp2
                    refine ⟨⟨0 + 1, by omega, by go_num, by rw [HTK.out, hin]; rw [Int.add_zero], Lib.hid (blw HQ.out (drN _ _))⟩, ?_⟩
                    simp [intOf]; omega
                · obtain ⟨q, rfl⟩ : ∃ q, j = q + 1 := ⟨j - 1, by omega⟩
                  obtain ⟨b', off', r, eA', hr, hd4⟩ := (HS5.out.below HQ.out).lt (k := q) (by rw [HNL.out]; omega)
                  injection eA' with eA'
                  injection eA' with eb eo
                  subst eb eo
                  obtain ⟨y0, _⟩ := hd4
                  have hrs := riseI_lt HI'.out.rise hr hs (Nat.lt_succ_self q)
                  have hji : ((q + 1 : Nat) : Int) - 1 = (q : Int) := by omega
                  clear hs hr
                  by_cases q1 : s.fm ≤ t
                  · by_cases q2 : t < s.to
                    · have hin : inW s.fm s.to s.nd t = s.nd := by unfold inW; rw [if_pos ⟨q1, q2⟩]
                      go_wp2_with fail
                      go_quiet (fail)
                      go_wp2
                      refine ⟨⟨q + 1 + 1, by omega, by go_num, by rw [HTK.out, hin]; rw [Int.add_assoc], Lib.hid (blw HQ.out (drN _ _))⟩, ?_⟩
                      simp [intOf]; omega
                    · have hin : inW s.fm s.to s.nd t = 0 := by unfold inW; rw [if_neg (by omega)]
                      go_wp2_with fail
                      go_quiet (fail)
                      go_wp2
                      refine ⟨⟨q + 1 + 1, by omega, by go_num, by rw [HTK.out, hin]; rw [Int.add_zero], Lib.hid (blw HQ.out (drN _ _))⟩, ?_⟩
                      simp [intOf]; omega
                  · have hin : inW s.fm s.to s.nd t = 0 := by unfold inW; rw [if_neg (by omega)]
                    go_wp2_with fail
                    go_quiet (fail)
                    go_wp2
                    refine ⟨⟨q + 1 + 1, by omega, by go_num, by rw [HTK.out, hin]; rw [Int.add_zero], Lib.hid (blw HQ.out (drN _ _))⟩, ?_⟩
                    simp [intOf]; omega
              · obtain rfl : j = nl := by omega
                have hkt : v + takV (L'.take j) t = v + takV L' t := by rw [List.take_of_length_le (by rw [HNL.out]; exact Nat.le_refl _)]
                rw [hkt]
                have htop := HTOP.out
                obtain ⟨K, hK⟩ : ∃ K, v + takV L' t = K := ⟨_, rfl⟩
                rw [hK] at htop ⊢
                have HKK := Lib.hid hK
                clear hK hkt
                have HM6 := Lib.hid (HM5.out.below HQ.out); have HW6 := Lib.hid (HW5.out.trans (Wr.of_below (S := GB g m) HQ.out))
                go_wp2_with fail
                refine (HST.out _ HM6.out).mono ?_
                rintro e w7 ⟨A7, c7, rfl, ho7, hb7⟩
                have HS7 := Lib.hid ho7.stp.2
                have HM7 := Lib.hid (HM6.out.below hb7); have HW7 := Lib.hid (HW6.out.trans (Wr.of_below (S := GB g m) hb7))
                clear ho7 hb7
                go_wp2_with fail
                refine (HCH.out _ _ _ HS7.out).mono ?_
                rintro e w8 ⟨rfl, hb8⟩
                have HM8 := Lib.hid (HM7.out.below hb8); have HW8 := Lib.hid (HW7.out.trans (Wr.of_below (S := GB g m) hb8))
                clear hb8
                go_wp2
                refine ⟨⟨i + 1, true, F', L', T', by omega, rfl, by go_num, Lib.hid (fun h => by cases h), HI', HWF', HM8, HW8⟩, ?_⟩
                simp [intOf]; omega
          · have hb0 : (e0 == 0) = false := by rw [beq_eq_false_iff_ne]; exact h0
            have H0 := Lib.hid h0
            clear h0
            go_wp2_with fail
            refine (HSL.out _ HM2.out).mono ?_
            rintro e w3 ⟨A3, c3, rfl, hs3, hb3⟩
            have HS3 := Lib.hid hs3
            have HM3 := Lib.hid (HM2.out.below hb3); have HW3 := Lib.hid (HW2'.out.trans (Wr.of_below (S := GB g m) hb3))
            clear hs3 hb3 z0
            go_wp2_with fail
            refine (HST.out _ HM3.out).mono ?_
            rintro e w4 ⟨A4, c4, rfl, ho4, hb4⟩
            have HS4 := Lib.hid ho4.stp.2
            have HM4 := Lib.hid (HM3.out.below hb4); have HW4 := Lib.hid (HW3.out.trans (Wr.of_below (S := GB g m) hb4)); have HS3b := Lib.hid (HS3.out.below hb4)
            clear ho4 hb4
            go_wp2_with fail
            refine (HAT.out _ _ _ HS4.out).mono ?_
            rintro e w5 ⟨rfl, hb5⟩
            have HM5 := Lib.hid (HM4.out.below hb5); have HW5 := Lib.hid (HW4.out.trans (Wr.of_below (S := GB g m) hb5)); have HS5 := Lib.hid (HS3b.out.below hb5)
            clear hb5
            obtain ⟨nl, hnl⟩ : ∃ nl, L'.length = nl := ⟨_, rfl⟩
            have HNL := Lib.hid hnl
            have hnl2 : nl ≤ 101 := by rw [← hnl]; have := HI'.out.ll; omega
            rw [hnl]
            clear hnl
            go_wp2_with fail
            go_loopw [15, 16] (fun vk vj wq => ∃ j : Nat, j ≤ nl ∧ vj = .int .i64 j ∧ vk = .int .i64 (v + takV (L'.take j) t) ∧ Hid (Below w5.heap.size w5 wq)) (fun _ vj _ => nl - (intOf vj).toNat)
            case atStart => exact ⟨0, Nat.zero_le _, rfl, by rw [List.take_zero]; simp [takV], Lib.hid (Below.refl _ _)⟩
            case round =>
              obtain ⟨j, hj, rfl, rfl, HQ⟩ := hrel
              by_cases hjl : j < nl
              · obtain ⟨b, off, s, eA, hs, hc4⟩ := (HS5.out.below HQ.out).lt (k := j) (by rw [HNL.out]; exact hjl)
                subst eA
                obtain ⟨x0, x1, x2, x3⟩ := hc4
                have htk : takV (L'.take (j + 1)) t = takV (L'.take j) t + inW s.fm s.to s.nd t := by rw [List.take_add_one, hs, Option.toList_some, tak_app]; simp [takV]
                have hso := HI'.out.ok s (List.mem_of_getElem? hs)
                have hb1 := hso.nd; have hb2 := HI'.out.n
                have hq0 : 0 ≤ takV (L'.take j) t := tak_pos _ fun u hu => by have := (HI'.out.ok u (List.mem_of_mem_take hu)).nd; omega
                have hq1 : takV (L'.take j) t ≤ 10000 * (L'.take j).length := tak_bd _ fun u hu => by have := (HI'.out.ok u (List.mem_of_mem_take hu)).nd; omega
                have hq2 : (L'.take j).length ≤ j := by simp; omega
                have hvb := HFB.out
                obtain ⟨p, hp⟩ : ∃ p, takV (L'.take j) t = p := ⟨_, rfl⟩
                rw [hp] at htk hq0 hq1 ⊢
                have HTK := Lib.hid htk
                have hq3 : p ≤ 1010000 := by omega
                clear hq1 hq2 hp htk
                by_cases j0 : j = 0
                · subst j0
                  clear hs
                  by_cases q1 : s.fm ≤ t
                  · by_cases q2 : t < s.to
                    · have hin : inW s.fm s.to s.nd t = s.nd := by unfold inW; rw [if_pos ⟨q1, q2⟩]
                      go_wp2_with fail
                      go_quiet (fail)
                      go_wp2
                      refine ⟨⟨0 + 1, by omega, by go_num, by rw [HTK.out, hin]; rw [Int.add_assoc], Lib.hid (blw HQ.out (drN _ _))⟩, ?_⟩
                      simp [intOf]; omega
                    · have hin : inW s.fm s.to s.nd t = 0 := by unfold inW; rw [if_neg (by omega)]
                      go_wp2_with fail
                      go_quiet (fail)
                      go_wp2
                      refine ⟨⟨0 + 1, by omega, by go_num, by rw [HTK.out, hin]; rw [Int.add_zero], Lib.hid (blw HQ.out (drN _ _))⟩, ?_⟩
                      simp [intOf]; omega
                  · have hin : inW s.fm s.to s.nd t = 0 := by unfold inW; rw [if_neg (by omega)]
                    go_wp2_with fail
                    go_quiet (fail)
                    go_wp2
                    refine ⟨⟨0 + 1, by omega, by go_num, by rw [HTK.out, hin]; rw [Int.add_zero], Lib.hid (blw HQ.out (drN _ _))⟩, ?_⟩
                    simp [intOf]; omega
                · obtain ⟨q, rfl⟩ : ∃ q, j = q + 1 := ⟨j - 1, by omega⟩
                  obtain ⟨b', off', r, eA', hr, hd4⟩ := (HS5.out.below HQ.out).lt (k := q) (by rw [HNL.out]; omega)
                  injection eA' with eA'
                  injection eA' with eb eo
                  subst eb eo
                  obtain ⟨y0, _⟩ := hd4
                  have hrs := riseI_lt HI'.out.rise hr hs (Nat.lt_succ_self q)
                  have hji : ((q + 1 : Nat) : Int) - 1 = (q : Int) := by omega
                  clear hs hr
                  by_cases q1 : s.fm ≤ t
                  · by_cases q2 : t < s.to
                    · have hin : inW s.fm s.to s.nd t = s.nd := by unfold inW; rw [if_pos ⟨q1, q2⟩]
                      go_wp2_with fail
                      go_quiet (fail)
                      go_wp2
                      refine ⟨⟨q + 1 + 1, by omega, by go_num, by rw [HTK.out, hin]; rw [Int.add_assoc], Lib.hid (blw HQ.out (drN _ _))⟩, ?_⟩
                      simp [intOf]; omega
                    · have hin : inW s.fm s.to s.nd t = 0 := by unfold inW; rw [if_neg (by omega)]
                      go_wp2_with fail
                      go_quiet (fail)
                      go_wp2
                      refine ⟨⟨q + 1 + 1, by omega, by go_num, by rw [HTK.out, hin]; rw [Int.add_zero], Lib.hid (blw HQ.out (drN _ _))⟩, ?_⟩
                      simp [intOf]; omega
                  · have hin : inW s.fm s.to s.nd t = 0 := by unfold inW; rw [if_neg (by omega)]
                    go_wp2_with fail
                    go_quiet (fail)
                    go_wp2
                    refine ⟨⟨q + 1 + 1, by omega, by go_num, by rw [HTK.out, hin]; rw [Int.add_zero], Lib.hid (blw HQ.out (drN _ _))⟩, ?_⟩
                    simp [intOf]; omega
              · obtain rfl : j = nl := by omega
                have hkt : v + takV (L'.take j) t = v + takV L' t := by rw [List.take_of_length_le (by rw [HNL.out]; exact Nat.le_refl _)]
                rw [hkt]
                have htop := HTOP.out
                obtain ⟨K, hK⟩ : ∃ K, v + takV L' t = K := ⟨_, rfl⟩
                rw [hK] at htop ⊢
                have HKK := Lib.hid hK
                clear hK hkt
                have HM6 := Lib.hid (HM5.out.below HQ.out); have HW6 := Lib.hid (HW5.out.trans (Wr.of_below (S := GB g m) HQ.out))
                have hKN : K = N := by rw [← HKK.out, ← HVV.out]; exact (fun t ht => (HV'.out (Or.inr H0.out) t ht).trans (HO.out (by first | rfl | trivial) t ht)) t htb.1
                have hbn : (K != N) = false := by rw [hKN]; simp
                go_wp2_with fail
                refine (HST.out _ HM6.out).mono ?_
                rintro e w7 ⟨A7, c7, rfl, ho7, hb7⟩
                have HS7 := Lib.hid ho7.stp.2
                have HM7 := Lib.hid (HM6.out.below hb7); have HW7 := Lib.hid (HW6.out.trans (Wr.of_below (S := GB g m) hb7))
                clear ho7 hb7
                go_wp2_with fail
                refine (HCH.out _ _ _ HS7.out).mono ?_
                rintro e w8 ⟨rfl, hb8⟩
                have HM8 := Lib.hid (HM7.out.below hb8); have HW8 := Lib.hid (HW7.out.trans (Wr.of_below (S := GB g m) hb8))
                clear hb8
                go_wp2
                refine ⟨⟨i + 1, false, F', L', T', by omega, rfl, by go_num, Lib.hid (fun _ => fun t ht => (HV'.out (Or.inr H0.out) t ht).trans (HO.out (by first | rfl | trivial) t ht)), HI', HWF', HM8, HW8⟩, ?_⟩
                simp [intOf]; omega
        · have hb5 : (d.kd == 5) = false := by rw [beq_eq_false_iff_ne]; exact h5
          have H5 := Lib.hid h5
          clear h5
          go_wp2_with fail
          refine (HSL.out _ HM2.out).mono ?_
          rintro e w3 ⟨A3, c3, rfl, hs3, hb3⟩
          have HS3 := Lib.hid hs3
          have HM3 := Lib.hid (HM2.out.below hb3); have HW3 := Lib.hid (HW2'.out.trans (Wr.of_below (S := GB g m) hb3))
          clear hs3 hb3 z0
          go_wp2_with fail
          refine (HST.out _ HM3.out).mono ?_
          rintro e w4 ⟨A4, c4, rfl, ho4, hb4⟩
          have HS4 := Lib.hid ho4.stp.2
          have HM4 := Lib.hid (HM3.out.below hb4); have HW4 := Lib.hid (HW3.out.trans (Wr.of_below (S := GB g m) hb4)); have HS3b := Lib.hid (HS3.out.below hb4)
          clear ho4 hb4
          go_wp2_with fail
          refine (HAT.out _ _ _ HS4.out).mono ?_
          rintro e w5 ⟨rfl, hb5⟩
          have HM5 := Lib.hid (HM4.out.below hb5); have HW5 := Lib.hid (HW4.out.trans (Wr.of_below (S := GB g m) hb5)); have HS5 := Lib.hid (HS3b.out.below hb5)
          clear hb5
          obtain ⟨nl, hnl⟩ : ∃ nl, L'.length = nl := ⟨_, rfl⟩
          have HNL := Lib.hid hnl
          have hnl2 : nl ≤ 101 := by rw [← hnl]; have := HI'.out.ll; omega
          rw [hnl]
          clear hnl
          go_wp2_with fail
          go_loopw [15, 16] (fun vk vj wq => ∃ j : Nat, j ≤ nl ∧ vj = .int .i64 j ∧ vk = .int .i64 (v + takV (L'.take j) t) ∧ Hid (Below w5.heap.size w5 wq)) (fun _ vj _ => nl - (intOf vj).toNat)
          case atStart => exact ⟨0, Nat.zero_le _, rfl, by rw [List.take_zero]; simp [takV], Lib.hid (Below.refl _ _)⟩
          case round =>
            obtain ⟨j, hj, rfl, rfl, HQ⟩ := hrel
            by_cases hjl : j < nl
            · obtain ⟨b, off, s, eA, hs, hc4⟩ := (HS5.out.below HQ.out).lt (k := j) (by rw [HNL.out]; exact hjl)
              subst eA
              obtain ⟨x0, x1, x2, x3⟩ := hc4
              have htk : takV (L'.take (j + 1)) t = takV (L'.take j) t + inW s.fm s.to s.nd t := by rw [List.take_add_one, hs, Option.toList_some, tak_app]; simp [takV]
              have hso := HI'.out.ok s (List.mem_of_getElem? hs)
              have hb1 := hso.nd; have hb2 := HI'.out.n
              have hq0 : 0 ≤ takV (L'.take j) t := tak_pos _ fun u hu => by have := (HI'.out.ok u (List.mem_of_mem_take hu)).nd; omega
              have hq1 : takV (L'.take j) t ≤ 10000 * (L'.take j).length := tak_bd _ fun u hu => by have := (HI'.out.ok u (List.mem_of_mem_take hu)).nd; omega
              have hq2 : (L'.take j).length ≤ j := by simp; omega
              have hvb := HFB.out
              obtain ⟨p, hp⟩ : ∃ p, takV (L'.take j) t = p := ⟨_, rfl⟩
              rw [hp] at htk hq0 hq1 ⊢
              have HTK := Lib.hid htk
              have hq3 : p ≤ 1010000 := by omega
              clear hq1 hq2 hp htk
              by_cases j0 : j = 0
              · subst j0
                clear hs
                by_cases q1 : s.fm ≤ t
                · by_cases q2 : t < s.to
                  · have hin : inW s.fm s.to s.nd t = s.nd := by unfold inW; rw [if_pos ⟨q1, q2⟩]
                    go_wp2_with fail
                    go_quiet (fail)
                    go_wp2
                    refine ⟨⟨0 + 1, by omega, by go_num, by rw [HTK.out, hin]; rw [Int.add_assoc], Lib.hid (blw HQ.out (drN _ _))⟩, ?_⟩
                    simp [intOf]; omega
                  · have hin : inW s.fm s.to s.nd t = 0 := by unfold inW; rw [if_neg (by omega)]
                    go_wp2_with fail
                    go_quiet (fail)
                    go_wp2
                    refine ⟨⟨0 + 1, by omega, by go_num, by rw [HTK.out, hin]; rw [Int.add_zero], Lib.hid (blw HQ.out (drN _ _))⟩, ?_⟩
                    simp [intOf]; omega
                · have hin : inW s.fm s.to s.nd t = 0 := by unfold inW; rw [if_neg (by omega)]
                  go_wp2_with fail
                  go_quiet (fail)
                  go_wp2
                  refine ⟨⟨0 + 1, by omega, by go_num, by rw [HTK.out, hin]; rw [Int.add_zero], Lib.hid (blw HQ.out (drN _ _))⟩, ?_⟩
                  simp [intOf]; omega
              · obtain ⟨q, rfl⟩ : ∃ q, j = q + 1 := ⟨j - 1, by omega⟩
                obtain ⟨b', off', r, eA', hr, hd4⟩ := (HS5.out.below HQ.out).lt (k := q) (by rw [HNL.out]; omega)
                injection eA' with eA'
                injection eA' with eb eo
                subst eb eo
                obtain ⟨y0, _⟩ := hd4
                have hrs := riseI_lt HI'.out.rise hr hs (Nat.lt_succ_self q)
                have hji : ((q + 1 : Nat) : Int) - 1 = (q : Int) := by omega
                clear hs hr
                by_cases q1 : s.fm ≤ t
                · by_cases q2 : t < s.to
                  · have hin : inW s.fm s.to s.nd t = s.nd := by unfold inW; rw [if_pos ⟨q1, q2⟩]
                    go_wp2_with fail
                    go_quiet (fail)
                    go_wp2
                    refine ⟨⟨q + 1 + 1, by omega, by go_num, by rw [HTK.out, hin]; rw [Int.add_assoc], Lib.hid (blw HQ.out (drN _ _))⟩, ?_⟩
                    simp [intOf]; omega
                  · have hin : inW s.fm s.to s.nd t = 0 := by unfold inW; rw [if_neg (by omega)]
                    go_wp2_with fail
                    go_quiet (fail)
                    go_wp2
                    refine ⟨⟨q + 1 + 1, by omega, by go_num, by rw [HTK.out, hin]; rw [Int.add_zero], Lib.hid (blw HQ.out (drN _ _))⟩, ?_⟩
                    simp [intOf]; omega
                · have hin : inW s.fm s.to s.nd t = 0 := by unfold inW; rw [if_neg (by omega)]
                  go_wp2_with fail
                  go_quiet (fail)
                  go_wp2
                  refine ⟨⟨q + 1 + 1, by omega, by go_num, by rw [HTK.out, hin]; rw [Int.add_zero], Lib.hid (blw HQ.out (drN _ _))⟩, ?_⟩
                  simp [intOf]; omega
            · obtain rfl : j = nl := by omega
              have hkt : v + takV (L'.take j) t = v + takV L' t := by rw [List.take_of_length_le (by rw [HNL.out]; exact Nat.le_refl _)]
              rw [hkt]
              have htop := HTOP.out
              obtain ⟨K, hK⟩ : ∃ K, v + takV L' t = K := ⟨_, rfl⟩
              rw [hK] at htop ⊢
              have HKK := Lib.hid hK
              clear hK hkt
              have HM6 := Lib.hid (HM5.out.below HQ.out); have HW6 := Lib.hid (HW5.out.trans (Wr.of_below (S := GB g m) HQ.out))
              have hKN : K = N := by rw [← HKK.out, ← HVV.out]; exact (fun t ht => (HV'.out (Or.inl H5.out) t ht).trans (HO.out (by first | rfl | trivial) t ht)) t htb.1
              have hbn : (K != N) = false := by rw [hKN]; simp
              go_wp2_with fail
              refine (HST.out _ HM6.out).mono ?_
              rintro e w7 ⟨A7, c7, rfl, ho7, hb7⟩
              have HS7 := Lib.hid ho7.stp.2
              have HM7 := Lib.hid (HM6.out.below hb7); have HW7 := Lib.hid (HW6.out.trans (Wr.of_below (S := GB g m) hb7))
              clear ho7 hb7
              go_wp2_with fail
              refine (HCH.out _ _ _ HS7.out).mono ?_
              rintro e w8 ⟨rfl, hb8⟩
              have HM8 := Lib.hid (HM7.out.below hb8); have HW8 := Lib.hid (HW7.out.trans (Wr.of_below (S := GB g m) hb8))
              clear hb8
              go_wp2
              refine ⟨⟨i + 1, false, F', L', T', by omega, rfl, by go_num, Lib.hid (fun _ => fun t ht => (HV'.out (Or.inl H5.out) t ht).trans (HO.out (by first | rfl | trivial) t ht)), HI', HWF', HM8, HW8⟩, ?_⟩
              simp [intOf]; omega
    · obtain rfl : i = ln := by omega
      clear hlt HD
      go_wp2_with fail
      refine (HK.out _).mono ?_
      rintro e w' ⟨rfl, hw⟩
      have HWX := Lib.hid (HW.out.trans (Wr.of_below (S := GB g m) hw))
      clear hw
      go_wp2
      go_ret
      exact ⟨rfl, below_wr HB1.out HWX.out HGM.out.1 HGM.out.2⟩

namespace bookRoom
open Go.ChangeShapes Go.WideShapes Go.ChangeAt Go.RowKit
theorem own : ownKnob Try.prog.godebug = none := by kernel_rfl
theorem laidOut : laidOutB Try.prog = true := by kernel_rfl

set_option maxRecDepth 100000 in
theorem lifted (os : Os) (started : os.Started) (H : Type) (enc : TypeId × Value → H) :
    ReturnsInHanded {} Try.checked os 3 .any (Rows.bookRoomSpec.pre6 enc Try.prog Try.f3 Rows.bookRoomRow.domain false) (Rows.bookRoomSpec.post enc Try.prog Try.f3 false true false false) := by
  refine returnsInHanded_of_change (C := Try.checked) own started (by kernel_rfl) Try.func3
    (ChangeSpec.witness6 (enc := enc) (C := Try.checked) false ⟨#[], #[.int .u8 0, .slice none 0 0, .int .i64 0], []⟩ 8 (by kernel_rfl) (by kernel_rfl) (by kernel_rfl) (by kernel_rfl)) ?_
  intro W base args ds gs before hval0 hW hcnd _
  have hval : ∀ (j : Nat) t v, Try.f3.params[j]? = some t → args[j]? = some v → Value.okWide Try.prog W .any base t v := hval0
  have hW' := hW
  obtain ⟨p, q, hA0, hV, rfl, hfz, hnd⟩ := hW
  have hA : DataW.TrodAll enc Try.prog W 0 (fun _ => true) true Try.f3.params.toList args.toList ds p := hA0
  rw [Try.params3] at hA hval
  obtain ⟨v0, vs0, d0, ds0, p0, q0, hargs, rfl, rfl, h0, r0⟩ := trodAll_cons hA
  obtain ⟨v1, vs1, d1, ds1, p1, q1, rfl, rfl, rfl, h1, r1⟩ := trodAll_cons r0
  obtain ⟨v2, vs2, d2, ds2, p2, q2, rfl, rfl, rfl, h2, r2⟩ := trodAll_cons r1
  obtain ⟨rfl, rfl, rfl⟩ := trodAll_nil r2
  obtain rfl : args = #[v0, v1, v2] := by cases args; simp_all
  obtain ⟨rfl, rfl⟩ := trodVars_none hV
  obtain ⟨a0, rfl, rfl, rfl, w0⟩ := open_int Try.underlying5 (hval 0 5 v0 rfl rfl) h0
  have k1 := h1
  have lt1 : ∀ x ∈ p1, x.block < W.heap.size := by obtain ⟨m, hm⟩ := k1; exact DataW.trod_lt m _ _ _ hm
  obtain ⟨A1, l1, c1, e1⟩ := okWide_slice Try.underlying22 (hval 1 22 v1 rfl rfl)
  obtain ⟨fuel1, hf1⟩ := h1
  rw [show v1.cells.toList = [v1] from by rw [e1]; rfl] at hf1
  clear e1 A1 l1 c1
  obtain ⟨A1, c1, z1, rfl, w1⟩ := Bk.dos_arg hf1
  obtain ⟨a2, rfl, rfl, rfl, w2⟩ := open_int Try.underlying3 (hval 2 3 v2 rfl rfl) h2
  clear hA0 hval0
  refine (walk_BookRoom W a0 w0 A1 c1 z1 w1 a2).mono fun e W' ⟨he, bel⟩ => ?_
  subst he
  exact ⟨_, rfl, _, _, _, [], _, [], hW', trodAll_mk1 (shut_bool Try.underlying4 _), (trodAll_cons_mk (shut_int Try.underlying5 w0) (trodAll_cons_mk (Below.trod laidOut (by kernel_rfl) (of_decide_eq_true (by kernel_rfl)) k1 bel lt1) (trodAll_cons_mk (shut_int Try.underlying3 w2) trodAll_mk0))), rfl, bel.frame _, fun h => by cases h⟩

theorem over : Rows.bookRoomRow.holds Try.pinned (OpenSpec.ofChange Rows.bookRoomSpec) :=
  OpenClaim.holds_of_wide 3 Try.f3 rfl rfl rfl rfl rfl rfl rfl ⟨rfl, rfl, rfl, rfl, rfl⟩ rfl rfl rfl rfl rfl (by kernel_rfl) Try.func3 (by kernel_rfl)
    (of_decide_eq_true (by kernel_rfl)) (by unfold Func.isWrapper; first | (rw [if_pos (by decide +kernel)]; kernel_rfl) | (rw [if_neg (by decide +kernel)]; exact ⟨rfl, rfl⟩))
    (fun os started H enc _ => lifted os started H enc)

theorem proved : Rows.BookRoomSaid := over
#print axioms proved
end bookRoom
end Go.Proofs.Ytapojmniokdjfaa

