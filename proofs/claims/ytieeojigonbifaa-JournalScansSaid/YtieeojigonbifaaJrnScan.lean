/- Scan: the program's. -/
import Derived.Test.YtieeojigonbifaaJrnObj
import Derived.Deep.RegionWith
namespace Go.Proofs.Ytieeojigonbifaa
open Go.RowKit
set_option linter.unusedVariables false

/-- the length in a slot -/
def slen : Value → Nat
  | .slice _ n _ => n
  | _ => 0
/-- what Scan hands back -/
def RetS (w : World) (ls : List (List Int)) (at_ : Nat) (n : Int) (e : Ending) (w' : World) : Prop :=
  ∃ A c, e = .returned (.tuple #[.slice A ls.length c, .int .i64 at_, .int .i64 n]) ∧ OwnR w' w.heap.size (fun b => w.heap.size ≤ b) (.slice A ls.length c) ls ∧ Below w.heap.size w w'
theorem word_at (R : Nat → Prop) (A : Option Addr) (c : Nat) (xs : List Int) (n : Nat) (w : World) (q : Int) (h : Byts w R A c xs) (hn : xs.length = n) (h4 : n ≤ 4) (hq : wv xs = q) :
    Calls Try.prog 31 #[.slice A n c] w fun e w' => e = .returned (.int .u32 q) ∧ w = w' := by
  subst hq; exact word_any R A c xs n w h hn h4
theorem scan_step {xs r : List Int} {rs : List (List Int)} {at_ : Nat} (h : scan xs = (rs ++ (scan r).1, at_ + (scan r).2.1, (scan r).2.2)) (hr : r ≠ []) (he : headE r = 0) :
    scan xs = ((rs ++ [body r]) ++ (scan (r.drop (8 + fn r))).1, (at_ + (8 + fn r)) + (scan (r.drop (8 + fn r))).2.1, (scan (r.drop (8 + fn r))).2.2) := by
  rw [h, scan_good hr he]
  simp only [List.append_assoc, List.cons_append, List.nil_append, Nat.add_assoc]

theorem retS_end {w wr : World} {xs : List Int} {rs : List (List Int)} {at_ : Nat} {ev q : Int} {A2 : Option Addr} {c2 : Nat} (hs : scan xs = (rs, at_, ev)) (hO : OwnR wr w.heap.size (fun b => w.heap.size ≤ b) (.slice A2 rs.length c2) rs) (hW : Below w.heap.size w wr) (hq : q = (at_ : Int)) :
    RetS w (scan xs).1 (scan xs).2.1 (scan xs).2.2 (.returned (.tuple #[.slice A2 rs.length c2, .int .i64 q, .int .i64 ev])) wr := by
  subst hq
  rw [hs]
  exact ⟨A2, c2, rfl, hO, hW⟩
theorem scan_stop {xs r : List Int} {rs : List (List Int)} {at_ : Nat} {ev : Int} (h : scan xs = (rs ++ (scan r).1, at_ + (scan r).2.1, (scan r).2.2)) (hr : r ≠ []) (he : headE r = ev) (h0 : ev ≠ 0) : scan xs = (rs, at_, ev) := by
  rw [h, scan_bad hr (by rw [he]; exact h0), he]; simp

set_option maxHeartbeats 3200000 in
theorem scan_any (R : Nat → Prop) (A : Option Addr) (c n : Nat) (xs : List Int) (w : World) (h : Byts w R A c xs) (hn : xs.length = n) (hl : n ≤ 4194304) :
    Calls Try.prog 16 #[.slice A n c] w (RetS w (scan xs).1 (scan xs).2.1 (scan xs).2.2) := by
  subst hn
  have hA0 := h.bts
  have HBT := Lib.hid hA0; clear hA0
  have H := Lib.hid h; clear h
  go_enter Try.func16, Try.ntmps16
  go_wp2_with fail
  go_step3
  go_wp2_with fail
  go_step3
  go_wp2
  go_loopw [5, 6, 7] (fun a b e wr => ∃ (at_ : Nat) (rs : List (List Int)) (r : List Int) (A1 A2 : Option Addr) (c1 c2 : Nat), a = .slice A2 rs.length c2 ∧ b = .slice A1 r.length c1 ∧ e = .int .i64 0 ∧ r.length ≤ 4194304 ∧ rs.length ≤ 4194304 ∧
      Hid (at_ + r.length = xs.length ∧ rs.length ≤ at_ ∧ Bts r) ∧ Hid (Byts w R A1 c1 r) ∧ Hid (OwnR wr w.heap.size (fun b => w.heap.size ≤ b) (.slice A2 rs.length c2) rs) ∧ Hid (Below w.heap.size w wr) ∧ Hid (scan xs = (rs ++ (scan r).1, at_ + (scan r).2.1, (scan r).2.2)))
    (fun _ b _ _ => slen b)
  case atStart => exact ⟨0, [], xs, A, none, c, 0, rfl, rfl, rfl, hl, by simp, Lib.hid ⟨by omega, by simp, HBT.out⟩, Lib.hid H.out, Lib.hid (OwnR.nil _ _ _), Lib.hid (Below.refl _ _), Lib.hid (by simp)⟩
  case round =>
    obtain ⟨at_, rs, r, A1, A2, c1, c2, rfl, rfl, rfl, hrl, hrsl, HA, HB, HO, HW, HS⟩ := hrel
    by_cases hr0 : r.length = 0
    · have hr : r = [] := List.eq_nil_of_length_eq_zero hr0
      subst hr
      clear hr0
      go_wp2
      rw [Exit.noGoto_ret]
      go_ret3
      exact retS_end (at_ := at_) (by rw [HS.out, scan_nil]; simp) HO.out HW.out (by have := HA.out.1; simp at this ⊢; omega)
    have hrn : r ≠ [] := fun e => hr0 (by rw [e]; rfl)
    have HRN := Lib.hid hrn; clear hrn
    have hr1 : 0 < r.length := by omega
    clear hr0
    have hat : r.length ≤ xs.length := by have := HA.out.1; omega
    by_cases h8 : r.length < 8
    · have HE := Lib.hid (headE_short h8)
      go_wp2
      rw [Exit.noGoto_ret]
      go_ret3
      exact retS_end (at_ := at_) (scan_stop HS.out HRN.out HE.out (by omega)) HO.out HW.out (by have := HA.out.1; omega)
    have hcap := HB.out.cap
    have htop := HB.out.top
    have hbt := HA.out.2.2
    obtain ⟨m, hm⟩ : ∃ m, r.length - 8 = m := ⟨_, rfl⟩
    obtain ⟨A4, hA4⟩ : ∃ A4, cutA A1 c1 4 = A4 := ⟨_, rfl⟩
    obtain ⟨A8, hA8⟩ : ∃ A8, cutA A1 c1 8 = A8 := ⟨_, rfl⟩
    obtain ⟨c4, hc4⟩ : ∃ c4, c1 - 4 = c4 := ⟨_, rfl⟩
    obtain ⟨c8, hc8⟩ : ∃ c8, c1 - 8 = c8 := ⟨_, rfl⟩
    have q1 := run_cut_h A1 r.length c1 4 .i64 4 rfl (by omega)
    have q2 := run_cut_lh A1 r.length c1 4 8 .i64 .i64 4 8 rfl rfl (by omega) (by omega)
    have q3 := run_cut_l A1 r.length c1 8 .i64 8 rfl (by omega)
    rw [hA4, hc4] at q2
    rw [hA8, hc8, hm] at q3
    have HB4 : Hid (Byts w R A1 c1 (r.take 4) ∧ (r.take 4).length = 4) := Lib.hid ⟨HB.out.take 4, by rw [List.length_take]; omega⟩
    have HBS : Hid (Byts w R A4 c4 ((r.drop 4).take 4) ∧ ((r.drop 4).take 4).length = 4) := Lib.hid ⟨by rw [← hA4, ← hc4]; exact (HB.out.cut (lo := 4) (by omega)).take 4, by rw [List.length_take, List.length_drop]; omega⟩
    have HB8 : Hid (Byts w R A8 c8 (r.drop 8) ∧ (r.drop 8).length = m) := Lib.hid ⟨by rw [← hA8, ← hc8]; exact HB.out.cut (lo := 8) (by omega), by rw [List.length_drop]; exact hm⟩
    have hc8m : m ≤ c8 := by omega
    have hml : m ≤ 4194304 := by omega
    have HM := Lib.hid hm
    clear hA4 hA8 hc4 hc8 hm
    obtain ⟨n, hn⟩ : ∃ n, fn r = n := ⟨_, rfl⟩
    have hfb := fn_bd hbt h8
    rw [hn] at hfb
    have hn1 := hfb.2
    have HN := Lib.hid hn
    have HFN := Lib.hid hfb.1.symm
    have HBTR := Lib.hid hbt
    clear hfb hbt
    by_cases hlong : 65536 < n
    · have HE := Lib.hid (headE_long h8 (by omega))
      clear hn
      go_wp2
      go_quiet (fail)
      have HO' := Lib.hid (HO.out.keep (w' := wr.drewN nq) fun _ _ _ => rfl)
      have HW' := Lib.hid (HW.out.trans (c := wr.drewN nq) ⟨rfl, rfl, rfl, Nat.le_refl _, fun _ _ => rfl⟩)
      generalize wr.drewN nq = wq at HO' HW' ⊢
      go_wp2_with fail
      refine (word_at _ _ _ _ _ _ n (HB4.out.1.below HW'.out) HB4.out.2 (by omega) HFN.out).mono ?_
      rintro e w1 ⟨rfl, rfl⟩
      go_wp2
      rw [Exit.noGoto_ret]
      go_ret3
      exact retS_end (at_ := at_) (scan_stop HS.out HRN.out HE.out (by omega)) HO'.out HW'.out (by have := HA.out.1; omega)
    by_cases hless : m < n
    · have HE := Lib.hid (headE_less h8 (by omega) (by have := HM.out; omega))
      clear hn
      go_wp2
      go_quiet (fail)
      have HO' := Lib.hid (HO.out.keep (w' := wr.drewN nq) fun _ _ _ => rfl)
      have HW' := Lib.hid (HW.out.trans (c := wr.drewN nq) ⟨rfl, rfl, rfl, Nat.le_refl _, fun _ _ => rfl⟩)
      generalize wr.drewN nq = wq at HO' HW' ⊢
      go_wp2_with fail
      refine (word_at _ _ _ _ _ _ n (HB4.out.1.below HW'.out) HB4.out.2 (by omega) HFN.out).mono ?_
      rintro e w1 ⟨rfl, rfl⟩
      go_wp2
      rw [Exit.noGoto_ret]
      go_ret3
      exact retS_end (at_ := at_) (scan_stop HS.out HRN.out HE.out (by omega)) HO'.out HW'.out (by have := HA.out.1; omega)
    have q4 := run_cut_h A8 m c8 n .u32 n rfl (by omega)
    have q5 := run_cut_l A8 m c8 n .u32 n rfl (by omega)
    have h2 : ¬ r.length < 8 + fn r := by have := HM.out; omega
    obtain ⟨x, hx⟩ : ∃ x, body r = x := ⟨_, rfl⟩
    have hxl : x.length = n := by rw [← hx, body_len h2, hn]
    have HX := Lib.hid hx
    have HXL := Lib.hid hxl
    have HBX : Hid (Byts w R A8 c8 x) := Lib.hid (by rw [← hx]; exact HB8.out.1.take _)
    obtain ⟨s, hs⟩ : ∃ s, sumA (r.take 4 ++ x) = s := ⟨_, rfl⟩
    obtain ⟨s', hs'⟩ : ∃ s', wv ((r.drop 4).take 4) = s' := ⟨_, rfl⟩
    have HSS := Lib.hid hs
    have HSW := Lib.hid hs'
    by_cases hss : s = s'
    · subst hss
      have he0 := headE_ok h8 (by omega) h2 (by rw [hx, hs, hs'])
      have HST := Lib.hid (scan_step HS.out HRN.out he0)
      rw [hn, hx] at HST
      obtain ⟨A9, hA9⟩ : ∃ A9, cutA A8 c8 n = A9 := ⟨_, rfl⟩
      obtain ⟨m9, hm9⟩ : ∃ m9, m - n = m9 := ⟨_, rfl⟩
      obtain ⟨c9, hc9⟩ : ∃ c9, c8 - n = c9 := ⟨_, rfl⟩
      rw [hA9, hm9, hc9] at q5
      have HB9 : Hid (Byts w R A9 c9 (r.drop (8 + n)) ∧ (r.drop (8 + n)).length = m9) := Lib.hid (by
        have e8 := HB8.out.2
        refine ⟨?_, ?_⟩
        · rw [← hA9, ← hc9, ← List.drop_drop]; exact HB8.out.1.cut (lo := n) (by omega)
        · rw [List.length_drop, ← hm9]; have := HM.out; omega)
      have hm9r : m9 < r.length := by have := HM.out; omega
      clear hA9 hm9 hc9 hn hx hxl hs hs' he0 h2
      go_wp2
      go_quiet (fail)
      have HO' := Lib.hid (HO.out.keep (w' := wr.drewN nq) fun _ _ _ => rfl)
      have HW' := Lib.hid (HW.out.trans (c := wr.drewN nq) ⟨rfl, rfl, rfl, Nat.le_refl _, fun _ _ => rfl⟩)
      generalize wr.drewN nq = wq at HO' HW' ⊢
      go_wp2_with fail
      refine (word_at _ _ _ _ _ _ n (HB4.out.1.below HW'.out) HB4.out.2 (by omega) HFN.out).mono ?_
      rintro e w1 ⟨rfl, rfl⟩
      go_wp2_with fail
      refine (sum_at (fun _ => True) _ _ _ [r.take 4, x] s _ (Rws.two (HB4.out.1.below HW'.out).any (HBX.out.below HW'.out).any HB4.out.2 HXL.out rfl trivial) rfl (by rw [← HSS.out]; simp)).mono ?_
      rintro e w1 ⟨rfl, rfl⟩
      have HW2 := Lib.hid (HW'.out.alloc HW'.out.size (.cells #[.slice A1 4 c1, .slice A8 n c8] 22))
      have HO2 := Lib.hid (HO'.out.alloc (.cells #[.slice A1 4 c1, .slice A8 n c8] 22))
      generalize wq.alloc (.cells #[.slice A1 4 c1, .slice A8 n c8] 22) = wz at HW2 HO2 ⊢
      go_wp2_with fail
      refine (word_at _ _ _ _ _ _ s (HBS.out.1.below HW2.out) HBS.out.2 (by omega) HSW.out).mono ?_
      rintro e w1 ⟨rfl, rfl⟩
      go_wp2_with fail
      refine (clone_any _ _ _ x _ _ (HBX.out.below HW2.out) HXL.out (by omega)).mono ?_
      rintro e w1 ⟨A5, c5, rfl, ho5, hw5⟩
      have HB5 := Lib.hid (byts_new ho5)
      have HW5 := Lib.hid (HW2.out.trans (hw5.mono HW2.out.size))
      have HZ := Lib.hid HW2.out.size
      have HZ1 := Lib.hid HW5.out.size
      have HZ2 := Lib.hid hw5.size
      have HO5 := Lib.hid (HO2.out.below hw5)
      have HL2 := Lib.hid (HO2.out.own)
      clear ho5 hw5
      go_wp2_with (at_builtin; refine wpList_appr rfl _ _ rfl w.heap.size (fun b => w.heap.size ≤ b) (.slice A2 rs.length c2) rs rfl (HO5.out.alloc _) _ 1 1 (fun b => wz.heap.size ≤ b) [x] rfl rfl (Rws.one HB5.out rfl rfl HZ2.out) ?_ (by simp; omega) (by have := HZ1.out; simp; omega) ?_)
      · intro b hb hwb
        refine ⟨Nat.le_trans HZ.out hwb, fun e => ?_⟩
        have := (HL2.out b e).2
        omega
      · intro l A' c' w' el ho hg hb hw
        have EL := Lib.hid el; clear el
        have HO6 := Lib.hid ho; clear ho
        go_wp2
        go_roundw
        case rel =>
          refine ⟨at_ + (8 + n), l, r.drop (8 + n), A9, A', c9, c', rfl, by rw [HB9.out.2], rfl, by rw [HB9.out.2]; omega, ?_, Lib.hid ⟨?_, ?_, HBTR.out.drop _⟩, Lib.hid HB9.out.1, HO6, Lib.hid ((HW5.out.alloc HZ1.out _).trans hw), Lib.hid (by rw [EL.out]; exact HST.out)⟩
          · have h1 := HA.out.1
            have h3 := HA.out.2.1
            rw [EL.out]; simp; have := HM.out; omega
          · have h1 := HA.out.1
            rw [HB9.out.2]; have := HB9.out.2; rw [List.length_drop] at this; have := HM.out; omega
          · have h3 := HA.out.2.1
            rw [EL.out]; simp; omega
        case measure => simp [slen]; omega
    · have HE := Lib.hid (headE_sum h8 (by omega) h2 (by rw [hx, hs, hs']; exact hss))
      have e1 : (s == s') = false := by rw [beq_eq_false_iff_ne]; exact hss
      have e2 : (s != s') = true := by rw [bne_iff_ne]; exact hss
      clear hn hx hxl hs hs' hss h2
      go_wp2
      go_quiet (fail)
      have HO' := Lib.hid (HO.out.keep (w' := wr.drewN nq) fun _ _ _ => rfl)
      have HW' := Lib.hid (HW.out.trans (c := wr.drewN nq) ⟨rfl, rfl, rfl, Nat.le_refl _, fun _ _ => rfl⟩)
      generalize wr.drewN nq = wq at HO' HW' ⊢
      go_wp2_with fail
      refine (word_at _ _ _ _ _ _ n (HB4.out.1.below HW'.out) HB4.out.2 (by omega) HFN.out).mono ?_
      rintro e w1 ⟨rfl, rfl⟩
      go_wp2_with fail
      refine (sum_at (fun _ => True) _ _ _ [r.take 4, x] s _ (Rws.two (HB4.out.1.below HW'.out).any (HBX.out.below HW'.out).any HB4.out.2 HXL.out rfl trivial) rfl (by rw [← HSS.out]; simp)).mono ?_
      rintro e w1 ⟨rfl, rfl⟩
      have HW2 := Lib.hid (HW'.out.alloc HW'.out.size (.cells #[.slice A1 4 c1, .slice A8 n c8] 22))
      have HO2 := Lib.hid (HO'.out.alloc (.cells #[.slice A1 4 c1, .slice A8 n c8] 22))
      generalize wq.alloc (.cells #[.slice A1 4 c1, .slice A8 n c8] 22) = wz at HW2 HO2 ⊢
      go_wp2_with fail
      refine (word_at _ _ _ _ _ _ s' (HBS.out.1.below HW2.out) HBS.out.2 (by omega) HSW.out).mono ?_
      rintro e w1 ⟨rfl, rfl⟩
      go_wp2
      rw [Exit.noGoto_ret]
      go_ret3
      exact retS_end (at_ := at_) (scan_stop HS.out HRN.out HE.out (by omega)) HO2.out HW2.out (by have := HA.out.1; omega)

end Go.Proofs.Ytieeojigonbifaa
