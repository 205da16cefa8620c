/- The document's Scan. -/
import Derived.Test.YtieeojigonbifaaJrnSet
namespace Go.Proofs.Ytieeojigonbifaa
open Go.RowKit
set_option linter.unusedVariables false

theorem retS_none {w w' : World} {xs : List Int} {ev : Int} (hs : scan xs = ([], 0, ev)) (hW : Below w.heap.size w w') :
    RetS w (scan xs).1 (scan xs).2.1 (scan xs).2.2 (.returned (.tuple #[.slice none 0 0, .int .i64 0, .int .i64 ev])) w' := by
  rw [hs]
  exact ⟨none, 0, rfl, OwnR.nil _ _ _, hW⟩
theorem retS_fin {w w' : World} {x : List Int} {rs l : List (List Int)} {n to : Nat} {q ev : Int} {A : Option Addr} {c : Nat} (el : l = [x] ++ rs) (ho : OwnR w' w.heap.size (fun b => w.heap.size ≤ b) (.slice A l.length c) l) (hW : Below w.heap.size w w') (hq : q = ((8 + n + to : Nat) : Int)) :
    RetS w (x :: rs) (8 + n + to) ev (.returned (.tuple #[.slice A l.length c, .int .i64 q, .int .i64 ev])) w' := by
  subst hq el
  exact ⟨A, c, rfl, ho, hW⟩
theorem four_of {xs : List Int} (h : ¬ xs.length < 8) : ∃ a b c d r, xs = a :: b :: c :: d :: r := by
  match xs, h with
  | a :: b :: c :: d :: r, _ => exact ⟨a, b, c, d, r, rfl⟩
  | [], h => simp at h
  | [_], h => simp at h
  | [_, _], h => simp at h
  | [_, _, _], h => simp at h

set_option maxRecDepth 100000 in
set_option maxHeartbeats 3200000 in
theorem rscan_any : ∀ (m : Nat) (R : Nat → Prop) (A : Option Addr) (c n : Nat) (xs : List Int) (w : World) (h : Byts w R A c xs) (hn : xs.length = n) (hm : n ≤ m) (hl : n ≤ 66000),
    Calls Try.prog 17 #[.slice A n c] w (RetS w (scan xs).1 (scan xs).2.1 (scan xs).2.2) := by
  intro m
  induction m with
  | zero =>
    intro R A c n xs w h hn hm hl
    obtain rfl : n = 0 := by omega
    have hx : xs = [] := List.eq_nil_of_length_eq_zero hn
    subst hx
    clear h
    go_enter Try.func17, Try.ntmps17
    go_wp2
    go_ret3
    exact retS_none scan_nil (Below.refl _ _)
  | succ m ih =>
    intro R A c n xs w h hn hm hl
    subst hn
    have IH := Lib.hid ih; clear ih
    by_cases hx0 : xs.length = 0
    · have hx : xs = [] := List.eq_nil_of_length_eq_zero hx0
      subst hx
      clear h
      go_enter Try.func17, Try.ntmps17
      go_wp2
      go_ret3
      exact retS_none scan_nil (Below.refl _ _)
    have en1 : ((xs.length : Int) == 0) = false := by rw [beq_eq_false_iff_ne]; omega
    have HNE : Hid (xs ≠ []) := Lib.hid fun e => hx0 (by rw [e]; rfl)
    have hxp : 0 < xs.length := by omega
    clear hx0
    by_cases h8 : xs.length < 8
    · have HE := Lib.hid (scan_bad HNE.out (by rw [headE_short h8]; omega))
      rw [headE_short h8] at HE
      clear h
      go_enter Try.func17, Try.ntmps17
      go_wp2
      go_ret3
      exact retS_none HE.out (Below.refl _ _)
    have hbt := h.bts
    have hcap := h.cap
    have htop := h.top
    obtain ⟨x0, x1, x2, x3, r, hxs⟩ := four_of h8
    obtain ⟨b, off, rfl, _, hc0, hb0, hb0'⟩ := h.cells 0 x0 (by rw [hxs]; rfl)
    obtain ⟨b', off', e1, _, hc1, hb1, hb1'⟩ := h.cells 1 x1 (by rw [hxs]; rfl)
    injection e1 with e1; injection e1 with e1 e2; subst e1 e2
    obtain ⟨b', off', e1, _, hc2, hb2, hb2'⟩ := h.cells 2 x2 (by rw [hxs]; rfl)
    injection e1 with e1; injection e1 with e1 e2; subst e1 e2
    obtain ⟨b', off', e1, _, hc3, hb3, hb3'⟩ := h.cells 3 x3 (by rw [hxs]; rfl)
    injection e1 with e1; injection e1 with e1 e2; subst e1 e2
    rw [Nat.add_zero] at hc0
    obtain ⟨n, hn⟩ : ∃ n, fn xs = n := ⟨_, rfl⟩
    have hfb := fn_bd hbt h8
    rw [hn] at hfb
    have hn1 := hfb.2
    have hv : x0 * 16777216 + x1 * 65536 + x2 * 256 + x3 = (n : Int) := by
      have := hfb.1
      rw [hxs] at this
      simp only [List.take] at this
      rw [wv_four] at this
      omega
    have HBT := Lib.hid hbt
    have H := Lib.hid h
    clear hfb hbt h hxs
    have quiet : Hid (∀ nq, Byts (w.drewN nq) R (some ⟨b, off, none⟩) c xs ∧ Below w.heap.size w (w.drewN nq)) := Lib.hid fun nq => ⟨H.out.keep (w' := w.drewN nq) fun _ _ _ => rfl, ⟨rfl, rfl, rfl, Nat.le_refl _, fun _ _ => rfl⟩⟩
    by_cases hlong : 65536 < n
    · have HE := Lib.hid (scan_bad HNE.out (by rw [headE_long h8 (by omega)]; omega))
      rw [headE_long h8 (by omega)] at HE
      clear hn
      go_enter Try.func17, Try.ntmps17
      go_wp2
      go_quiet (fail)
      go_wp2
      go_ret3
      exact retS_none HE.out (quiet.out nq).2
    by_cases hless : xs.length < 8 + n
    · have HE := Lib.hid (scan_bad HNE.out (by rw [headE_less h8 (by omega) (by omega)]; omega))
      rw [headE_less h8 (by omega) (by omega)] at HE
      clear hn
      go_enter Try.func17, Try.ntmps17
      go_wp2
      go_quiet (fail)
      go_wp2
      go_ret3
      exact retS_none HE.out (quiet.out nq).2
    have h2 : ¬ xs.length < 8 + fn xs := by rw [hn]; exact hless
    obtain ⟨A, hA⟩ : ∃ A, A = (some ⟨b, off, none⟩ : Option Addr) := ⟨_, rfl⟩
    obtain ⟨A8, hA8⟩ : ∃ A8, cutA A c 8 = A8 := ⟨_, rfl⟩
    obtain ⟨c8, hc8⟩ : ∃ c8, c - 8 = c8 := ⟨_, rfl⟩
    obtain ⟨A9, hA9⟩ : ∃ A9, cutA A c (8 + n) = A9 := ⟨_, rfl⟩
    obtain ⟨c9, hc9⟩ : ∃ c9, c - (8 + n) = c9 := ⟨_, rfl⟩
    obtain ⟨m9, hm9⟩ : ∃ m9, xs.length - (8 + n) = m9 := ⟨_, rfl⟩
    have q1 := run_cut_lh A xs.length c 8 (8 + n) .i64 .i64 8 (8 + (n : Int)) rfl (by omega) (by omega) (by omega)
    have q2 := run_cut_h A xs.length c (8 + n) .i64 (8 + (n : Int)) (by omega) (by omega)
    have q3 := run_cut_l A xs.length c (8 + n) .i64 (8 + (n : Int)) (by omega) (by omega)
    rw [hA8, hc8, show 8 + n - 8 = n from by omega] at q1
    rw [hA9, hc9, hm9] at q3
    obtain ⟨x, hx⟩ : ∃ x, body xs = x := ⟨_, rfl⟩
    have hxl : x.length = n := by rw [← hx, body_len h2, hn]
    have HW9 : Hid (∀ W, Byts W R A c xs → Byts W R A9 c9 (xs.drop (8 + n)) ∧ Byts W R A8 c8 x ∧ Byts W R A c (xs.take (8 + n))) := Lib.hid fun W hW => by
      refine ⟨?_, ?_, hW.take _⟩
      · rw [← hA9, ← hc9]; exact hW.cut (by omega)
      · rw [← hA8, ← hc8, ← hx, body, hn]; exact (hW.cut (lo := 8) (by omega)).take n
    have HL9 : Hid ((xs.drop (8 + n)).length = m9) := Lib.hid (by rw [List.length_drop]; exact hm9)
    have HLT : Hid ((xs.take (8 + n)).length = 8 + n) := Lib.hid (by rw [List.length_take]; omega)
    have hm9m : m9 ≤ m := by omega
    have hm9l : m9 ≤ 66000 := by omega
    have HXL := Lib.hid hxl
    have HM9 := Lib.hid hm9
    subst hA
    clear hA8 hc8 hA9 hc9 hm9
    by_cases hss : sumA (xs.take 4 ++ x) = wv ((xs.drop 4).take 4)
    · have he0 := headE_ok h8 (by omega) h2 (by rw [hx]; exact hss)
      have HE := Lib.hid (scan_good HNE.out he0)
      have hsm : frame x = xs.take (8 + n) := by rw [← hx, ← hn]; exact (frame_iff HBT.out h8 h2).2 (by rw [hx]; exact hss)
      have HSM : Hid (sameB (frame x) (xs.take (8 + n)) = true) := Lib.hid (by rw [hsm]; simp [sameB])
      rw [hn, hx] at HE
      obtain ⟨rs, to, ev, hs⟩ : ∃ rs to ev, scan (xs.drop (8 + n)) = (rs, to, ev) := ⟨_, _, _, rfl⟩
      rw [hs] at HE
      have hto := (scan_le (HBT.out.drop (8 + n)) hs).1
      rw [List.length_drop] at hto
      have hrs : rs.length ≤ 100000 := by
        have h1 := scan_le (HBT.out.drop (8 + n)) hs
        have h3 : ∀ l : List (List Int), l.length ≤ sz l := by
          intro l
          induction l with
          | nil => simp [sz]
          | cons y l ih => simp only [sz, List.length_cons]; omega
        have h4 := h3 rs
        rw [h1.2.2.2] at h4
        omega
      have HS := Lib.hid hs
      clear hs hsm hss he0 hn hx hxl h2
      go_enter Try.func17, Try.ntmps17
      go_wp2
      go_quiet (fail)
      have HB1 := Lib.hid (quiet.out nq).1
      have HW1 := Lib.hid (quiet.out nq).2
      generalize w.drewN nq = w1 at HB1 HW1 ⊢
      go_wp2_with fail
      refine (rframe_any _ _ _ _ x _ (HW9.out _ HB1.out).2.1 HXL.out (by omega)).mono ?_
      rintro e w2 ⟨A2, c2, rfl, ho2, hw2⟩
      have HO2 := Lib.hid ho2; clear ho2
      have HB2 := Lib.hid (HB1.out.below hw2)
      have HW2 := Lib.hid (blw HW1.out hw2)
      go_wp2_with fail
      refine (rsame_any _ _ _ _ _ _ _ _ (frame x) (xs.take (8 + n)) _ (byts_of HO2.out) (HW9.out _ HB2.out).2.2 rfl HLT.out true HSM.out).mono ?_
      rintro e w3 ⟨rfl, rfl⟩
      go_wp2_with fail
      have hrec := IH.out _ _ _ _ (xs.drop (8 + n)) w2 (HW9.out _ HB2.out).1 HL9.out hm9m (by omega)
      rw [HS.out] at hrec
      refine hrec.mono ?_
      rintro e w4 ⟨A4, c4, rfl, ho4, hw4⟩
      have HR4 := Lib.hid ((rws_new ho4).mono (R' := fun b => w2.heap.size ≤ b ∧ b < w4.heap.size) fun b hlt hb => ⟨hb, hlt⟩)
      clear ho4 hrec
      have HB4 := Lib.hid (HB2.out.below hw4)
      have HW4 := Lib.hid (blw HW2.out hw4)
      go_wp2_with fail
      refine (rcopy_any _ _ _ x _ _ (HW9.out _ HB4.out).2.1 HXL.out (by omega)).mono ?_
      rintro e w5 ⟨A5, c5, rfl, ho5, hw5⟩
      have HB5 := Lib.hid ((byts_new ho5).mono (R' := fun b => w.heap.size ≤ b) fun b _ hb => Nat.le_trans HW4.out.size hb)
      have HR5 := Lib.hid (HR4.out.below hw5)
      have HW5 := Lib.hid (blw HW4.out hw5)
      have HZ := Lib.hid hw5.size
      have HZ2 := Lib.hid HW2.out.size
      clear ho5
      go_wp2_with (at_builtin; refine wpList_appr rfl _ _ rfl w.heap.size (fun b => w.heap.size ≤ b) (.slice (some ⟨w5.heap.size, 0, none⟩) 1 1) [x] rfl (OwnR.lit HW5.out.size HB5.out) A4 c4 rs.length _ rs rfl rfl (HR5.out.alloc _) ?_ (by simp; omega) (by have := HW5.out.size; simp; omega) ?_)
      · intro b _ hb
        refine ⟨Nat.le_trans HZ2.out hb.1, fun e => ?_⟩
        simp only [Value.ownBlock] at e
        injection e with e
        have := HZ.out
        omega
      · intro l A' c' w' el ho hg hb hw
        have EL := Lib.hid el; clear el
        have HO6 := Lib.hid ho; clear ho
        go_wp2
        go_ret3
        rw [HE.out]
        exact retS_fin EL.out HO6.out ((HW5.out.alloc HW5.out.size _).trans hw) (by omega)
    · have HE := Lib.hid (scan_bad HNE.out (by rw [headE_sum h8 (by omega) h2 (by rw [hx]; exact hss)]; omega))
      rw [headE_sum h8 (by omega) h2 (by rw [hx]; exact hss)] at HE
      have hsm : frame x ≠ xs.take (8 + n) := fun e => hss (by rw [← hx] at e ⊢; rw [← hn] at e; exact (frame_iff HBT.out h8 h2).1 e)
      have HSM : Hid (sameB (frame x) (xs.take (8 + n)) = false) := Lib.hid (by unfold sameB; exact decide_eq_false hsm)
      clear hsm hss hn hx hxl h2
      go_enter Try.func17, Try.ntmps17
      go_wp2
      go_quiet (fail)
      have HB1 := Lib.hid (quiet.out nq).1
      have HW1 := Lib.hid (quiet.out nq).2
      generalize w.drewN nq = w1 at HB1 HW1 ⊢
      go_wp2_with fail
      refine (rframe_any _ _ _ _ x _ (HW9.out _ HB1.out).2.1 HXL.out (by omega)).mono ?_
      rintro e w2 ⟨A2, c2, rfl, ho2, hw2⟩
      have HO2 := Lib.hid ho2; clear ho2
      have HB2 := Lib.hid (HB1.out.below hw2)
      have HW2 := Lib.hid (blw HW1.out hw2)
      go_wp2_with fail
      refine (rsame_any _ _ _ _ _ _ _ _ (frame x) (xs.take (8 + n)) _ (byts_of HO2.out) (HW9.out _ HB2.out).2.2 rfl HLT.out false HSM.out).mono ?_
      rintro e w3 ⟨rfl, rfl⟩
      go_wp2
      go_ret3
      exact retS_none HE.out HW2.out

end Go.Proofs.Ytieeojigonbifaa
