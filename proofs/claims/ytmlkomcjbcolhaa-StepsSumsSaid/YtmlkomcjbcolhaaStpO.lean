/- Layer 9: the document's Add and Sum. -/
import Derived.Test.YtmlkomcjbcolhaaStpN
import Derived.Test.YtmlkomcjbcolhaaStpB
namespace Go.Proofs.Ytmlkomcjbcolhaa.Stp
open Go.RowKit Go.Shelf
open Dag (Ints)
set_option linter.unusedVariables false
set_option maxRecDepth 100000

theorem errs (e0 : Int) : (e0 != 0) = !decide (e0 = 0) := by by_cases h : e0 = 0 <;> simp [h]
set_option maxHeartbeats 3200000 in
theorem radd_any (l : List StepD) (a b k : Int) (A : Option Addr) (n c : Nat) (hn : l.length = n) (hb : n ≤ 1000) (w : World) (h : Stp w A c l) :
    Calls Try.prog 13 #[.slice A n c, .int .i64 a, .int .i64 b, .int .i64 k] w (RetS (addL l a b k) (addE l a b k) w) := by
  have HCK := Lib.hid (rcheck_any l A n c hn w h)
  have HIA := Lib.hid fun (W : World) => Clk.ris_any a W
  have HIB := Lib.hid fun (W : World) => Clk.ris_any b W
  obtain ⟨e0, he0⟩ : ∃ e0, addE l a b k = e0 := ⟨_, rfl⟩
  obtain ⟨R, hR⟩ : ∃ R, addL l a b k = R := ⟨_, rfl⟩
  rw [he0, hR]
  unfold addL at hR
  rw [he0] at hR
  unfold addE at he0
  by_cases hd : durE l a b = 0 ∧ -10000 ≤ k ∧ k ≤ 10000
  case neg =>
    rw [if_neg hd] at he0
    subst he0
    rw [if_neg (by decide)] at hR
    subst hR
    rcases chkE_or l with ⟨hc, hp⟩ | ⟨hc, hp⟩
    · rw [hc] at HCK
      cases hi : Clk.isT a
      · rw [hi] at HIA
        clear h hn hd hi hc hp
        go_enter Try.func13, Try.ntmps13
        go_wp2_with fail
        refine HCK.out.mono ?_
        rintro e w1 ⟨rfl, hb1⟩
        go_wp2_with fail
        refine (HIA.out _).mono ?_
        rintro e w2 ⟨rfl, rfl⟩
        go_wp2
        go_ret2
        exact retS_err rfl hb1
      · rw [hi] at HIA
        cases hj : Clk.isT b
        · rw [hj] at HIB
          clear h hn hd hi hj hc hp
          go_enter Try.func13, Try.ntmps13
          go_wp2_with fail
          refine HCK.out.mono ?_
          rintro e w1 ⟨rfl, hb1⟩
          go_wp2_with fail
          refine (HIA.out _).mono ?_
          rintro e w2 ⟨rfl, rfl⟩
          go_wp2_with fail
          refine (HIB.out _).mono ?_
          rintro e w2 ⟨rfl, rfl⟩
          go_wp2
          go_ret2
          exact retS_err rfl hb1
        · rw [hj] at HIB
          by_cases hba : b < a
          · clear h hn hd hi hj hc hp
            go_enter Try.func13, Try.ntmps13
            go_wp2_with fail
            refine HCK.out.mono ?_
            rintro e w1 ⟨rfl, hb1⟩
            go_wp2_with fail
            refine (HIA.out _).mono ?_
            rintro e w2 ⟨rfl, rfl⟩
            go_wp2_with fail
            refine (HIB.out _).mono ?_
            rintro e w2 ⟨rfl, rfl⟩
            go_wp2
            go_ret2
            exact retS_err rfl hb1
          · have hk : ¬ (-10000 ≤ k ∧ k ≤ 10000) := fun hk => hd ⟨by unfold durE; rw [if_pos ⟨chkD_prof.2 hp, hi, hj, by omega⟩], hk⟩
            have hle : a ≤ b := by omega
            by_cases hk1 : 10000 < k
            · clear h hn hd hi hj hc hp hba hk
              go_enter Try.func13, Try.ntmps13
              go_wp2_with fail
              refine HCK.out.mono ?_
              rintro e w1 ⟨rfl, hb1⟩
              go_wp2_with fail
              refine (HIA.out _).mono ?_
              rintro e w2 ⟨rfl, rfl⟩
              go_wp2_with fail
              refine (HIB.out _).mono ?_
              rintro e w2 ⟨rfl, rfl⟩
              go_wp2
              go_ret2
              exact retS_err rfl hb1
            · have hk2 : k < -10000 := by omega
              clear h hn hd hi hj hc hp hba hk
              go_enter Try.func13, Try.ntmps13
              go_wp2_with fail
              refine HCK.out.mono ?_
              rintro e w1 ⟨rfl, hb1⟩
              go_wp2_with fail
              refine (HIA.out _).mono ?_
              rintro e w2 ⟨rfl, rfl⟩
              go_wp2_with fail
              refine (HIB.out _).mono ?_
              rintro e w2 ⟨rfl, rfl⟩
              go_wp2
              go_ret2
              exact retS_err rfl hb1
    · rw [hc] at HCK
      clear h hn hd hc hp
      go_enter Try.func13, Try.ntmps13
      go_wp2_with fail
      refine HCK.out.mono ?_
      rintro e w1 ⟨rfl, hb1⟩
      go_wp2
      go_ret2
      exact retS_err rfl hb1
  rw [if_pos hd] at he0
  obtain ⟨hp, hi, hj, hab⟩ := dur_yes hd.1
  have hc : chkE l = 0 := by unfold chkE; rw [if_pos (chkD_prof.2 hp)]
  rw [hc] at HCK
  rw [hi] at HIA
  rw [hj] at HIB
  have hdoc := add_doc hd.1 hd.2
  obtain ⟨R0, hR0⟩ : ∃ R0, addR l a b k = R0 := ⟨_, rfl⟩
  rw [hR0] at hdoc hR he0
  have HTM := Lib.hid fun W (hW : Below w.heap.size w W) => times_any l [] a b A none n 0 c 0 hn rfl (by omega) W (h.below hW) (Stp.empty W)
  have htl := timesL_len l [] a b
  obtain ⟨ts, hts⟩ : ∃ ts, timesL l [] a b = ts := ⟨_, rfl⟩
  rw [hts] at HTM hdoc htl
  obtain ⟨p, hpl⟩ : ∃ p, ts.length = p := ⟨_, rfl⟩
  rw [hpl] at HTM htl
  have hp1 : p ≤ 1002 := by simp at htl; omega
  have HPL := Lib.hid hpl
  have HFR := Lib.hid fun (t : Int) W (hW : Below w.heap.size w W) => free_any l t A n c hn W (h.below hW)
  have HFB := Lib.hid fun (t : Int) (ht : t ∈ ts) => (show -10000 ≤ foldV 0 l t ∧ foldV 0 l t ≤ 20000 from by
    have := (times_is l [] a b (by
      rintro t (rfl | rfl | ⟨s, hs, rfl⟩ | ⟨s, hs, _⟩)
      · exact (Clk.isT_bd hi).1
      · exact (Clk.isT_bd hj).1
      · exact (hp.ok s hs).1.1
      · cases hs)).1
    rw [hts] at this
    have h0 := riseI_mem this ht
    rw [fold_val hp.rise]; have := hp.bd (t := t) (by omega); omega)
  have HRUN := Lib.hid hdoc.run; have HOK := Lib.hid hdoc.ok
  have HE := Lib.hid he0; have HRR := Lib.hid hR
  have hk := hd.2
  clear h hn hd hi hj hc hp hdoc hR0 hts hpl htl he0 hR
  go_enter Try.func13, Try.ntmps13
  go_wp2_with fail
  refine HCK.out.mono ?_
  rintro e w1 ⟨rfl, hb1⟩
  have HB1 := Lib.hid hb1
  clear hb1
  go_wp2_with fail
  refine (HIA.out _).mono ?_
  rintro e w2 ⟨rfl, rfl⟩
  go_wp2_with fail
  refine (HIB.out _).mono ?_
  rintro e w2 ⟨rfl, rfl⟩
  go_wp2_with fail
  refine (HTM.out _ HB1.out).mono ?_
  rintro e w2 ⟨At, ct, rfl, hit, hb2⟩
  have HIT := Lib.hid hit; have HB2 := Lib.hid (blw HB1.out hb2)
  clear hit hb2
  go_wp2
  go_loopw [11, 13] (fun vo vi wr => ∃ (i : Nat) (out : List StepD) (O : Option Addr) (co : Nat), i ≤ p ∧ out.length ≤ i ∧ vi = .int .i64 i ∧ vo = .slice O out.length co ∧ Hid (OwnS wr w2.heap.size (.slice O out.length co) out) ∧ Hid (Below w2.heap.size w2 wr) ∧ Hid (runF (gAdd l a b k) out (ts.drop i) = R0) ∧ Hid (∀ (j : Nat) t, j < i → ts[j]? = some t → nodeOK (gAdd l a b k t) = true)) (fun _ vi _ => p - (intOf vi).toNat)
  case atStart => exact ⟨0, [], none, 0, Nat.zero_le _, Nat.le_refl _, rfl, rfl, Lib.hid (OwnS.nil _ _), Lib.hid (Below.refl _ _), HRUN, Lib.hid fun j t hj => absurd hj (Nat.not_lt_zero j)⟩
  case round =>
    obtain ⟨i, out, O, co, hi, hol, rfl, rfl, HO, HX, HRN0, HAL⟩ := hrel
    have HXW0 := Lib.hid (blw HB2.out HX.out)
    by_cases hlt : i < p
    · obtain ⟨tb, to_, t, eT, ht, ct0⟩ := (Ints.below HIT.out HX.out).at_ (k := i) (by rw [HPL.out]; exact hlt)
      subst eT
      have hmem : t ∈ ts := List.mem_of_getElem? ht
      have hfr := HFR.out t wr HXW0.out
      have hfb := HFB.out t hmem
      obtain ⟨v, hv⟩ : ∃ v, foldV 0 l t = v := ⟨_, rfl⟩
      rw [hv] at hfr hfb
      obtain ⟨u, hu⟩ : ∃ u, gAdd l a b k t = u := ⟨_, rfl⟩
      have HRN : Hid (runF (gAdd l a b k) (putD out ⟨t, u⟩) (ts.drop (i + 1)) = R0) := Lib.hid (by
        have := HRN0.out
        rw [List.drop_eq_getElem_cons (by rw [HPL.out]; exact hlt), (List.getElem?_eq_some_iff.1 ht).2] at this
        rw [← hu]; exact this)
      have HBAD : Hid (nodeOK u = false → e0 = 70 ∧ R = []) := Lib.hid fun hb => by
        have hk0 : ¬ okS R0 = true := fun e => by
          have := HOK.out.1 e t hmem
          rw [hu, hb] at this; cases this
        have he := HE.out
        rw [if_neg hk0] at he
        have hr := HRR.out
        rw [if_neg (by rw [← he]; decide)] at hr
        exact ⟨he.symm, hr.symm⟩
      have HAL2 : Hid (nodeOK u = true → ∀ (j : Nat) t, j < i + 1 → ts[j]? = some t → nodeOK (gAdd l a b k t) = true) := Lib.hid fun hok j t' hj ht' => by
        by_cases e : j < i
        · exact HAL.out j t' e ht'
        · obtain rfl : j = i := by omega
          rw [ht] at ht'
          injection ht' with ht'
          subst ht'
          rw [hu]; exact hok
      by_cases hin : a ≤ t ∧ t < b
      · have hw1 : IntKind.i64.wrap (v + k) = v + k := IntWalk.i64_in _ (by omega)
        have hia : a ≤ t := hin.1
        have hib : t < b := hin.2
        have hiw : inW a b k t = k := by unfold inW; rw [if_pos hin]
        clear hin
        have hue : u = (v + k) := by rw [← hu]; unfold gAdd; rw [hv, hiw]; try omega
        subst hue
        clear hu
        by_cases hb0 : (v + k) < 0
        · obtain ⟨h1, h2⟩ := HBAD.out (by simp [nodeOK]; omega)
          subst h1 h2
          clear HBAD HAL2 HRN HE HRR HOK ht hmem
          go_wp2_with fail
          refine hfr.mono ?_
          rintro e w4 ⟨rfl, hb4⟩
          have HBX := Lib.hid hb4
          have HBW := Lib.hid (blw HXW0.out hb4)
          have ct1 := kp HBX.out ct0
          clear hb4 hfr ct0
          go_wp2
          try simp only [Exit.noGoto]
          go_ret2
          exact retS_err rfl HBW.out

        by_cases hb0 : 10000 < (v + k)
        · obtain ⟨h1, h2⟩ := HBAD.out (by simp [nodeOK]; omega)
          subst h1 h2
          clear HBAD HAL2 HRN HE HRR HOK ht hmem
          go_wp2_with fail
          refine hfr.mono ?_
          rintro e w4 ⟨rfl, hb4⟩
          have HBX := Lib.hid hb4
          have HBW := Lib.hid (blw HXW0.out hb4)
          have ct1 := kp HBX.out ct0
          clear hb4 hfr ct0
          go_wp2
          try simp only [Exit.noGoto]
          go_ret2
          exact retS_err rfl HBW.out

        have HAL3 := Lib.hid (HAL2.out (nodeOK_iff.2 ⟨by omega, by omega⟩))
        clear HBAD HAL2 HE HRR HOK ht hmem

        go_wp2_with fail
        refine hfr.mono ?_
        rintro e w4 ⟨rfl, hb4⟩
        have HBX := Lib.hid hb4
        have HBW := Lib.hid (blw HXW0.out hb4)
        have ct1 := kp HBX.out ct0
        clear hb4 hfr ct0

        go_wp2_with fail
        refine (tidy_any out ⟨t, (v + k)⟩ w2.heap.size O out.length co _ (HO.out.below HBX.out) (Nat.le_trans HX.out.size HBX.out.size) (by omega)).mono ?_
        rintro e w5 ⟨O3, co3, rfl, ho3, hb3⟩
        have HO3 := Lib.hid ho3; have HB3 := Lib.hid ((HX.out.trans (HBX.out.mono HX.out.size)).trans hb3)
        clear ho3 hb3
        go_wp2
        refine ⟨⟨i + 1, putD out ⟨t, (v + k)⟩, O3, co3, by omega, by have := put_len out ⟨t, (v + k)⟩; omega, by go_num, rfl, HO3, HB3, HRN, HAL3⟩, ?_⟩
        simp [intOf]; omega
      · by_cases hia : a ≤ t
        · have hiw : inW a b k t = 0 := by unfold inW; rw [if_neg hin]
          have hib : b ≤ t := by omega
          clear hin
          have hue : u = v := by rw [← hu]; unfold gAdd; rw [hv, hiw]; try omega
          subst hue
          clear hu
          by_cases hb0 : u < 0
          · obtain ⟨h1, h2⟩ := HBAD.out (by simp [nodeOK]; omega)
            subst h1 h2
            clear HBAD HAL2 HRN HE HRR HOK ht hmem
            go_wp2_with fail
            refine hfr.mono ?_
            rintro e w4 ⟨rfl, hb4⟩
            have HBX := Lib.hid hb4
            have HBW := Lib.hid (blw HXW0.out hb4)
            have ct1 := kp HBX.out ct0
            clear hb4 hfr ct0
            go_wp2
            try simp only [Exit.noGoto]
            go_ret2
            exact retS_err rfl HBW.out

          by_cases hb0 : 10000 < u
          · obtain ⟨h1, h2⟩ := HBAD.out (by simp [nodeOK]; omega)
            subst h1 h2
            clear HBAD HAL2 HRN HE HRR HOK ht hmem
            go_wp2_with fail
            refine hfr.mono ?_
            rintro e w4 ⟨rfl, hb4⟩
            have HBX := Lib.hid hb4
            have HBW := Lib.hid (blw HXW0.out hb4)
            have ct1 := kp HBX.out ct0
            clear hb4 hfr ct0
            go_wp2
            try simp only [Exit.noGoto]
            go_ret2
            exact retS_err rfl HBW.out

          have HAL3 := Lib.hid (HAL2.out (nodeOK_iff.2 ⟨by omega, by omega⟩))
          clear HBAD HAL2 HE HRR HOK ht hmem

          go_wp2_with fail
          refine hfr.mono ?_
          rintro e w4 ⟨rfl, hb4⟩
          have HBX := Lib.hid hb4
          have HBW := Lib.hid (blw HXW0.out hb4)
          have ct1 := kp HBX.out ct0
          clear hb4 hfr ct0

          go_wp2_with fail
          refine (tidy_any out ⟨t, u⟩ w2.heap.size O out.length co _ (HO.out.below HBX.out) (Nat.le_trans HX.out.size HBX.out.size) (by omega)).mono ?_
          rintro e w5 ⟨O3, co3, rfl, ho3, hb3⟩
          have HO3 := Lib.hid ho3; have HB3 := Lib.hid ((HX.out.trans (HBX.out.mono HX.out.size)).trans hb3)
          clear ho3 hb3
          go_wp2
          refine ⟨⟨i + 1, putD out ⟨t, u⟩, O3, co3, by omega, by have := put_len out ⟨t, u⟩; omega, by go_num, rfl, HO3, HB3, HRN, HAL3⟩, ?_⟩
          simp [intOf]; omega
        · have hiw : inW a b k t = 0 := by unfold inW; rw [if_neg hin]
          clear hin
          have hia2 : t < a := by omega
          have hue : u = v := by rw [← hu]; unfold gAdd; rw [hv, hiw]; try omega
          subst hue
          clear hu
          by_cases hb0 : u < 0
          · obtain ⟨h1, h2⟩ := HBAD.out (by simp [nodeOK]; omega)
            subst h1 h2
            clear HBAD HAL2 HRN HE HRR HOK ht hmem
            go_wp2_with fail
            refine hfr.mono ?_
            rintro e w4 ⟨rfl, hb4⟩
            have HBX := Lib.hid hb4
            have HBW := Lib.hid (blw HXW0.out hb4)
            have ct1 := kp HBX.out ct0
            clear hb4 hfr ct0
            go_wp2
            try simp only [Exit.noGoto]
            go_ret2
            exact retS_err rfl HBW.out

          by_cases hb0 : 10000 < u
          · obtain ⟨h1, h2⟩ := HBAD.out (by simp [nodeOK]; omega)
            subst h1 h2
            clear HBAD HAL2 HRN HE HRR HOK ht hmem
            go_wp2_with fail
            refine hfr.mono ?_
            rintro e w4 ⟨rfl, hb4⟩
            have HBX := Lib.hid hb4
            have HBW := Lib.hid (blw HXW0.out hb4)
            have ct1 := kp HBX.out ct0
            clear hb4 hfr ct0
            go_wp2
            try simp only [Exit.noGoto]
            go_ret2
            exact retS_err rfl HBW.out

          have HAL3 := Lib.hid (HAL2.out (nodeOK_iff.2 ⟨by omega, by omega⟩))
          clear HBAD HAL2 HE HRR HOK ht hmem

          go_wp2_with fail
          refine hfr.mono ?_
          rintro e w4 ⟨rfl, hb4⟩
          have HBX := Lib.hid hb4
          have HBW := Lib.hid (blw HXW0.out hb4)
          have ct1 := kp HBX.out ct0
          clear hb4 hfr ct0

          go_wp2_with fail
          refine (tidy_any out ⟨t, u⟩ w2.heap.size O out.length co _ (HO.out.below HBX.out) (Nat.le_trans HX.out.size HBX.out.size) (by omega)).mono ?_
          rintro e w5 ⟨O3, co3, rfl, ho3, hb3⟩
          have HO3 := Lib.hid ho3; have HB3 := Lib.hid ((HX.out.trans (HBX.out.mono HX.out.size)).trans hb3)
          clear ho3 hb3
          go_wp2
          refine ⟨⟨i + 1, putD out ⟨t, u⟩, O3, co3, by omega, by have := put_len out ⟨t, u⟩; omega, by go_num, rfl, HO3, HB3, HRN, HAL3⟩, ?_⟩
          simp [intOf]; omega
    · obtain rfl : i = p := by omega
      have hr : out = R0 := by
        have := HRN0.out
        rw [show ts.drop i = [] from List.drop_eq_nil_of_le (by rw [HPL.out]; exact Nat.le_refl _)] at this
        exact this
      have hk0 : okS R0 = true := HOK.out.2 fun t ht => by
        obtain ⟨j, hj⟩ := List.getElem?_of_mem ht
        exact HAL.out j t (by have := (List.getElem?_eq_some_iff.1 hj).1; rw [HPL.out] at this; exact this) hj
      have he := HE.out
      rw [if_pos hk0] at he
      have hrr := HRR.out
      rw [if_pos he.symm, ← hr] at hrr
      subst he hrr
      clear hr hk0 HE HRR HOK HRN0 HAL HRUN
      go_wp2
      try simp only [Exit.noGoto]
      go_ret2
      exact ⟨O, co, rfl, HO.out.stp.2, HXW0.out⟩

set_option maxHeartbeats 3200000 in
theorem rsum_any (l m : List StepD) (A B : Option Addr) (n k c d : Nat) (hn : l.length = n) (hk : m.length = k) (hb : n + k ≤ 1000) (w : World) (h : Stp w A c l) (h' : Stp w B d m) :
    Calls Try.prog 25 #[.slice A n c, .slice B k d] w (RetS (sumL l m) (sumE l m) w) := by
  have HCL := Lib.hid fun W (hW : Below w.heap.size w W) => rcheck_any l A n c hn W (h.below hW)
  have HCM := Lib.hid fun W (hW : Below w.heap.size w W) => rcheck_any m B k d hk W (h'.below hW)
  obtain ⟨e0, he0⟩ : ∃ e0, sumE l m = e0 := ⟨_, rfl⟩
  obtain ⟨R, hR⟩ : ∃ R, sumL l m = R := ⟨_, rfl⟩
  rw [he0, hR]
  unfold sumL at hR
  rw [he0] at hR
  unfold sumE at he0
  rcases chkE_or l with ⟨hc, hp⟩ | ⟨hc, hp⟩
  case inr =>
    rw [hc] at HCL
    rw [if_neg (by simp [hp])] at he0
    subst he0
    rw [if_neg (by decide)] at hR
    subst hR
    clear h h' hn hk hp hc
    go_enter Try.func25, Try.ntmps25
    go_wp2_with fail
    refine (HCL.out _ (Below.refl _ _)).mono ?_
    rintro e w1 ⟨rfl, hb1⟩
    go_wp2
    go_ret2
    exact retS_err rfl hb1
  rw [hc] at HCL
  rcases chkE_or m with ⟨hd, hq⟩ | ⟨hd, hq⟩
  case inr =>
    rw [hd] at HCM
    rw [if_neg (by simp [hq])] at he0
    subst he0
    rw [if_neg (by decide)] at hR
    subst hR
    clear h h' hn hk hp hc hq hd
    go_enter Try.func25, Try.ntmps25
    go_wp2_with fail
    refine (HCL.out _ (Below.refl _ _)).mono ?_
    rintro e w1 ⟨rfl, hb1⟩
    go_wp2_with fail
    refine (HCM.out _ hb1).mono ?_
    rintro e w2 ⟨rfl, hb2⟩
    go_wp2
    go_ret2
    exact retS_err rfl (blw hb1 hb2)
  rw [hd] at HCM
  rw [if_pos ⟨chkD_prof.2 hp, chkD_prof.2 hq⟩] at he0
  have hdoc := sum_doc hp hq
  obtain ⟨R0, hR0⟩ : ∃ R0, sumR l m = R0 := ⟨_, rfl⟩
  rw [hR0] at hdoc hR he0
  have HTM := Lib.hid fun W (hW : Below w.heap.size w W) => times_any l m 0 0 A B n k c d hn hk (by omega) W (h.below hW) (h'.below hW)
  have htl := timesL_len l m 0 0
  obtain ⟨ts, hts⟩ : ∃ ts, timesL l m 0 0 = ts := ⟨_, rfl⟩
  rw [hts] at HTM hdoc htl
  obtain ⟨p, hpl⟩ : ∃ p, ts.length = p := ⟨_, rfl⟩
  rw [hpl] at HTM htl
  have hp1 : p ≤ 1002 := by omega
  have HPL := Lib.hid hpl
  have HFL := Lib.hid fun (t : Int) W (hW : Below w.heap.size w W) => free_any l t A n c hn W (h.below hW)
  have HFM := Lib.hid fun (t : Int) W (hW : Below w.heap.size w W) => free_any m t B k d hk W (h'.below hW)
  have HFB := Lib.hid fun (t : Int) (ht : t ∈ ts) => (show (0 ≤ foldV 0 l t ∧ foldV 0 l t ≤ 10000) ∧ 0 ≤ foldV 0 m t ∧ foldV 0 m t ≤ 10000 from by
    have := (times_is l m 0 0 (by
      rintro t (rfl | rfl | ⟨s, hs, rfl⟩ | ⟨s, hs, rfl⟩)
      · exact Int.le_refl _
      · exact Int.le_refl _
      · exact (hp.ok s hs).1.1
      · exact (hq.ok s hs).1.1)).1
    rw [hts] at this
    have h0 := riseI_mem this ht
    rw [fold_val hp.rise, fold_val hq.rise]
    exact ⟨hp.bd (by omega), hq.bd (by omega)⟩)
  have HRUN := Lib.hid hdoc.run; have HOK := Lib.hid hdoc.ok
  have HE := Lib.hid he0; have HRR := Lib.hid hR
  clear h h' hn hk hd hq hc hp hdoc hR0 hts hpl htl he0 hR
  go_enter Try.func25, Try.ntmps25
  go_wp2_with fail
  refine (HCL.out _ (Below.refl _ _)).mono ?_
  rintro e w1 ⟨rfl, hb1⟩
  have HB1 := Lib.hid hb1
  clear hb1
  go_wp2_with fail
  refine (HCM.out _ HB1.out).mono ?_
  rintro e w2 ⟨rfl, hb2⟩
  have HB2a := Lib.hid (blw HB1.out hb2)
  clear hb2
  go_wp2_with fail
  refine (HTM.out _ HB2a.out).mono ?_
  rintro e w2 ⟨At, ct, rfl, hit, hb2⟩
  have HIT := Lib.hid hit; have HB2 := Lib.hid (blw HB2a.out hb2)
  clear hit hb2
  go_wp2
  go_loopw [6, 8] (fun vo vi wr => ∃ (i : Nat) (out : List StepD) (O : Option Addr) (co : Nat), i ≤ p ∧ out.length ≤ i ∧ vi = .int .i64 i ∧ vo = .slice O out.length co ∧ Hid (OwnS wr w2.heap.size (.slice O out.length co) out) ∧ Hid (Below w2.heap.size w2 wr) ∧ Hid (runF (gSum l m) out (ts.drop i) = R0) ∧ Hid (∀ (j : Nat) t, j < i → ts[j]? = some t → nodeOK (gSum l m t) = true)) (fun _ vi _ => p - (intOf vi).toNat)
  case atStart => exact ⟨0, [], none, 0, Nat.zero_le _, Nat.le_refl _, rfl, rfl, Lib.hid (OwnS.nil _ _), Lib.hid (Below.refl _ _), HRUN, Lib.hid fun j t hj => absurd hj (Nat.not_lt_zero j)⟩
  case round =>
    obtain ⟨i, out, O, co, hi, hol, rfl, rfl, HO, HX, HRN0, HAL⟩ := hrel
    have HXW0 := Lib.hid (blw HB2.out HX.out)
    by_cases hlt : i < p
    · obtain ⟨tb, to_, t, eT, ht, ct0⟩ := (Ints.below HIT.out HX.out).at_ (k := i) (by rw [HPL.out]; exact hlt)
      subst eT
      have hmem : t ∈ ts := List.mem_of_getElem? ht
      have hfr := HFL.out t
      have hfm := HFM.out t
      have hfb := HFB.out t hmem
      obtain ⟨v, hv⟩ : ∃ v, foldV 0 l t = v := ⟨_, rfl⟩
      obtain ⟨v2, hv2⟩ : ∃ v, foldV 0 m t = v := ⟨_, rfl⟩
      rw [hv] at hfr
      rw [hv2] at hfm
      rw [hv, hv2] at hfb
      obtain ⟨u, hu⟩ : ∃ u, gSum l m t = u := ⟨_, rfl⟩
      have HRN : Hid (runF (gSum l m) (putD out ⟨t, u⟩) (ts.drop (i + 1)) = R0) := Lib.hid (by
        have := HRN0.out
        rw [List.drop_eq_getElem_cons (by rw [HPL.out]; exact hlt), (List.getElem?_eq_some_iff.1 ht).2] at this
        rw [← hu]; exact this)
      have HBAD : Hid (nodeOK u = false → e0 = 2 ∧ R = []) := Lib.hid fun hb => by
        have hk0 : ¬ okS R0 = true := fun e => by
          have := HOK.out.1 e t hmem
          rw [hu, hb] at this; cases this
        have he := HE.out
        rw [if_neg hk0] at he
        have hr := HRR.out
        rw [if_neg (by rw [← he]; decide)] at hr
        exact ⟨he.symm, hr.symm⟩
      have HAL2 : Hid (nodeOK u = true → ∀ (j : Nat) t, j < i + 1 → ts[j]? = some t → nodeOK (gSum l m t) = true) := Lib.hid fun hok j t' hj ht' => by
        by_cases e : j < i
        · exact HAL.out j t' e ht'
        · obtain rfl : j = i := by omega
          rw [ht] at ht'
          injection ht' with ht'
          subst ht'
          rw [hu]; exact hok
      have hw1 : IntKind.i64.wrap (v + v2) = v + v2 := IntWalk.i64_in _ (by omega)
      have hue : u = (v + v2) := by rw [← hu]; unfold gSum; rw [hv, hv2]
      subst hue
      clear hu
      by_cases hb0 : 10000 < (v + v2)
      · obtain ⟨h1, h2⟩ := HBAD.out (by simp [nodeOK]; omega)
        subst h1 h2
        clear HBAD HAL2 HRN HE HRR HOK ht hmem
        have s0 : wr.drew.cell? ⟨tb, to_ + i, none⟩ = some (.int .i64 t) := kp (dr wr) ct0
        have HQ0 := Lib.hid (dr wr)
        clear ct0
        go_wp2_with fail
        go_region_held3 (fun (W : World) => W.cell? ⟨tb, to_ + i, none⟩ = some (.int .i64 t)) (first | exact s2 | exact s1 | exact s0) (first
          | (go_at_call 35; refine (hfm _ (blw HXW0.out HQ1.out)).mono ?_; rintro e x2 ⟨rfl, hb2⟩; have s2 := kp hb2 s1; have HBX := Lib.hid (blw HQ1.out hb2); clear hb2)
          | (go_at_call 35; refine (hfr _ (blw HXW0.out HQ0.out)).mono ?_; rintro e x1 ⟨rfl, hb1⟩; have s1 := kp hb1 s0; have HQ1 := Lib.hid (blw HQ0.out hb1); clear hb1))
        have HBW := Lib.hid (blw HXW0.out HBX.out)
        clear s0 s1 hfr hfm
        go_wp2
        try simp only [Exit.noGoto]
        go_ret2
        exact retS_err rfl HBW.out

      have HAL3 := Lib.hid (HAL2.out (nodeOK_iff.2 ⟨by omega, by omega⟩))
      clear HBAD HAL2 HE HRR HOK ht hmem

      have s0 : wr.drew.cell? ⟨tb, to_ + i, none⟩ = some (.int .i64 t) := kp (dr wr) ct0
      have HQ0 := Lib.hid (dr wr)
      clear ct0
      go_wp2_with fail
      go_region_held3 (fun (W : World) => W.cell? ⟨tb, to_ + i, none⟩ = some (.int .i64 t)) (first | exact s2 | exact s1 | exact s0) (first
        | (go_at_call 35; refine (hfm _ (blw HXW0.out HQ1.out)).mono ?_; rintro e x2 ⟨rfl, hb2⟩; have s2 := kp hb2 s1; have HBX := Lib.hid (blw HQ1.out hb2); clear hb2)
        | (go_at_call 35; refine (hfr _ (blw HXW0.out HQ0.out)).mono ?_; rintro e x1 ⟨rfl, hb1⟩; have s1 := kp hb1 s0; have HQ1 := Lib.hid (blw HQ0.out hb1); clear hb1))
      have HBW := Lib.hid (blw HXW0.out HBX.out)
      clear s0 s1 hfr hfm

      go_wp2_with fail
      refine (tidy_any out ⟨t, (v + v2)⟩ w2.heap.size O out.length co _ (HO.out.below HBX.out) (Nat.le_trans HX.out.size HBX.out.size) (by omega)).mono ?_
      rintro e w5 ⟨O3, co3, rfl, ho3, hb3⟩
      have HO3 := Lib.hid ho3; have HB3 := Lib.hid ((HX.out.trans (HBX.out.mono HX.out.size)).trans hb3)
      clear ho3 hb3
      go_wp2
      refine ⟨⟨i + 1, putD out ⟨t, (v + v2)⟩, O3, co3, by omega, by have := put_len out ⟨t, (v + v2)⟩; omega, by go_num, rfl, HO3, HB3, HRN, HAL3⟩, ?_⟩
      simp [intOf]; omega
    · obtain rfl : i = p := by omega
      have hr : out = R0 := by
        have := HRN0.out
        rw [show ts.drop i = [] from List.drop_eq_nil_of_le (by rw [HPL.out]; exact Nat.le_refl _)] at this
        exact this
      have hk0 : okS R0 = true := HOK.out.2 fun t ht => by
        obtain ⟨j, hj⟩ := List.getElem?_of_mem ht
        exact HAL.out j t (by have := (List.getElem?_eq_some_iff.1 hj).1; rw [HPL.out] at this; exact this) hj
      have he := HE.out
      rw [if_pos hk0] at he
      have hrr := HRR.out
      rw [if_pos he.symm, ← hr] at hrr
      subst he hrr
      clear hr hk0 HE HRR HOK HRN0 HAL HRUN
      go_wp2
      try simp only [Exit.noGoto]
      go_ret2
      exact ⟨O, co, rfl, HO.out.stp.2, HXW0.out⟩
end Go.Proofs.Ytmlkomcjbcolhaa.Stp

