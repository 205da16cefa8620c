/- JournalTears: for any slice of slices of bytes, and any two uint16, the law returns true, and all read afterwards as before. Condition: the second form's (what is read holds at most 1048576 values and letters). -/
import Derived.Test.YtieeojigonbifaaRows
import Derived.Test.YtieeojigonbifaaJrnArg
import Derived.Test.YtieeojigonbifaaJrnCnt
import Derived.WalkKit
import Derived.ProofKit
import Derived.OpenShut
import Derived.ShutString
import Derived.ChangeOld
import Derived.Below
import Derived.JoinedCond
import Derived.Deep.RegionHeld3
namespace Go.Proofs.Ytieeojigonbifaa
open Go.ChangeShapes Go.WideShapes Go.ChangeAt Go.RowKit
set_option linter.unusedVariables false

set_option maxRecDepth 100000 in
set_option maxHeartbeats 3200000 in
theorem walk_JournalTears (w : World) (A : Option Addr) (c : Nat) (ls : List (List Int)) (h : Rws w (fun _ => True) A c ls) (n : Int) (wn : (Lit.int .u16 n).wf = true) (m : Int) (wm : (Lit.int .u16 m).wf = true) (hsum : cnt ls ≤ 1048576) :
    Calls Try.prog 6 #[.slice A ls.length c, .int .u16 n, .int .u16 m] w fun e w' => e = .returned (.bool true) ∧ Below w.heap.size w w' := by
  have hl : ls.length ≤ 9223372036854775807 := Nat.le_trans h.cap h.top
  have hcap := h.cap
  have hszc := sz_cnt ls
  have HBT := Lib.hid h.bts
  have HSZ : Hid (sz ls ≤ 9000000000000000000) := Lib.hid (by omega)
  have H := Lib.hid h.old; clear h
  have hn0 := (wf_u16 wn).1
  have hn1 := (wf_u16 wn).2
  have hm0 := (wf_u16 wm).1
  have hm1 := (wf_u16 wm).2
  clear wn wm hszc
  by_cases hbig : 2000 < sz ls
  · have HBIG := Lib.hid hbig; clear hbig
    go_enter Try.func6, Try.ntmps6
    go_wp2_with fail
    refine (long_at _ _ _ _ ls _ H.out rfl HSZ.out true (decide_eq_true HBIG.out)).mono ?_
    rintro e w1 ⟨rfl, rfl⟩
    go_wp2_with fail
    refine (known_any _).mono ?_
    rintro e w' ⟨rfl, hw⟩
    go_wp2
    go_ret
    exact ⟨rfl, hw⟩
  have HBIG := Lib.hid hbig; clear hbig
  have HREC : Hid (Recs ls) := Lib.hid (recs_of HBT.out (by have := HBIG.out; omega))
  have hlen : ls.length ≤ 2000 := by have := len_sz ls; have := HBIG.out; omega
  -- the numbers
  obtain ⟨fl, efl⟩ : ∃ fl, frames ls = fl := ⟨_, rfl⟩
  have hfl : fl.length = sz ls := by rw [← efl, frames_len]
  have hfl2 : fl.length ≤ 2000 := by have := HBIG.out; omega
  have hflb : Bts fl := by rw [← efl]; exact frames_bts HREC.out
  obtain ⟨ka, hka, hkal⟩ := emod_nat (a := n) (n := fl.length + 1) (by omega)
  rw [show ((fl.length + 1 : Nat) : Int) = (fl.length : Int) + 1 from by omega] at hka
  obtain ⟨r, hr⟩ : ∃ r, r + ka = fl.length := ⟨fl.length - ka, by omega⟩
  have hwr : IntKind.i64.wrap ((fl.length : Int) - (ka : Int)) = (r : Int) := by rw [show (fl.length : Int) - (ka : Int) = (r : Int) from by omega, IntKind.wrap_i64]; omega
  obtain ⟨at1, ev1, hs1⟩ : ∃ at1 ev1, scan (fl.take r) = (ls.take (whole ls r), at1, ev1) := by
    have h1 := scan_torn HREC.out r (by omega)
    rw [efl] at h1
    exact ⟨(scan (fl.take r)).2.1, (scan (fl.take r)).2.2, by rw [← h1.1]⟩
  obtain ⟨W, hW⟩ : ∃ W, whole ls r = W := ⟨_, rfl⟩
  have hWl : W ≤ ls.length := by rw [← hW]; exact whole_le ls r
  rw [hW] at hs1
  obtain ⟨lw, elw⟩ : ∃ lw, ls.take W = lw := ⟨_, rfl⟩
  rw [elw] at hs1
  have hlwl : lw.length = W := by rw [← elw, List.length_take]; omega
  have hb1 : Bts (fl.take r) := hflb.take r
  have hsl := scan_le hb1 hs1
  have hat1 := hsl.1
  have hrl : (fl.take r).length = r := by rw [List.length_take]; omega
  rw [hrl] at hat1
  obtain ⟨fw, efw⟩ : ∃ fw, (fl.take r).take at1 = fw := ⟨_, rfl⟩
  have hfwl : fw.length = at1 := by rw [← efw, List.length_take]; omega
  have hfwf : frames lw = fw := by rw [hsl.2.2.1, efw]
  have hfw2 : fw.length ≤ 2000 := by omega
  have hsf : scan fw = (lw, at1, 0) := by
    have := scan_part _ hb1
    rw [hs1] at this
    rw [← efw]; exact this
  have hfwb : Bts fw := by rw [← efw]; exact hb1.take _
  obtain ⟨mm, hmm⟩ : ∃ mm : Int, (r : Int) - (at1 : Int) = mm := ⟨_, rfl⟩
  have hmm0 : 0 ≤ mm := by omega
  obtain ⟨kb, hkb, hkbl⟩ := emod_nat (a := m) (n := fw.length + 1) (by omega)
  rw [show ((fw.length + 1 : Nat) : Int) = (fw.length : Int) + 1 from by omega] at hkb
  obtain ⟨r2, hr2⟩ : ∃ r2, r2 + kb = fw.length := ⟨fw.length - kb, by omega⟩
  have hwr2 : IntKind.i64.wrap ((fw.length : Int) - (kb : Int)) = (r2 : Int) := by rw [show (fw.length : Int) - (kb : Int) = (r2 : Int) from by omega, IntKind.wrap_i64]; omega
  obtain ⟨l2, at2, ev2, hs2⟩ : ∃ l2 at2 ev2, scan (fw.take r2) = (l2, at2, ev2) := ⟨_, _, _, rfl⟩
  have hb2 : Bts (fw.take r2) := hfwb.take r2
  have hsl2 := scan_le hb2 hs2
  have hat2 := hsl2.1
  obtain ⟨y2, ey2⟩ : ∃ y2, (fw.take r2).take at2 = y2 := ⟨_, rfl⟩
  have hs2' : scan y2 = (l2, at2, 0) := by
    have := scan_part _ hb2
    rw [hs2] at this
    rw [← ey2]; exact this
  have hy2l : y2.length ≤ 2000 := by
    rw [← ey2]
    simp only [List.length_take]
    omega
  -- the calls
  have HRF : Hid (∀ W', Rws W' (fun b => b < w.heap.size) A c ls → Calls Try.prog 26 #[.slice A ls.length c] W' (RetB W' fl)) := Lib.hid fun W' hW' => by
    have := rframes_any _ A c ls.length ls W' hW' rfl HREC.out (by have := HBIG.out; omega)
    rw [efl] at this
    exact this
  have HRF2 : Hid (∀ W', Rws W' (fun b => b < w.heap.size) A c ls → Calls Try.prog 26 #[.slice A W c] W' (RetB W' fw)) := Lib.hid fun W' hW' => by
    have := rframes_any _ A c W lw W' (by rw [← elw]; exact hW'.take _) hlwl (by rw [← elw]; exact HREC.out.take _) (by rw [← frames_len, hfwf]; omega)
    rw [hfwf] at this
    exact this
  have HRT : Hid (∀ W', Rws W' (fun b => b < w.heap.size) A c ls → Rws W' (fun b => b < w.heap.size) A c lw) := Lib.hid fun W' hW' => by rw [← elw]; exact hW'.take _
  have HLW := Lib.hid hlwl
  have HSLW : Hid (sameL lw lw = true) := Lib.hid (by simp [sameL])
  have HSL2 : Hid (sameL l2 l2 = true) := Lib.hid (by simp [sameL])
  have HADD : Hid (∀ (W' : World) (g : Nat) (v : Value) (base : Nat), Jrn W' base g v [] 0 → Rws W' (fun b => b < w.heap.size) A c ls → w.heap.size ≤ g → v.ownBlock = none → base ≤ W'.heap.size →
      Calls Try.prog 25 #[.pointer (some ⟨g, 0, none⟩), .slice A ls.length c] W' (RetA W' base g v fl ls.length)) := Lib.hid fun W' g v base hj hr hg hv hbs => by
    have := add_any (fun b => b < w.heap.size) base g v [] 0 A c ls.length ls W' hj hr rfl (by
      rintro b hb (e | e)
      · omega
      · rw [hv] at e; cases e) HREC.out (by have := HBIG.out; simp; omega) (by omega) hbs
    rw [efl, List.nil_append, Nat.zero_add] at this
    exact this
  have HOP1 : Hid (∀ (W' : World) (A' : Option Addr) (c' : Nat), Byts W' (fun _ => True) A' c' fl → Calls Try.prog 18 #[.slice A' r c'] W' (RetO W' fw W mm ev1)) := Lib.hid fun W' A' c' hB => by
    have := open_any _ A' c' r (fl.take r) W' lw at1 ev1 mm (hB.take r) hrl (by omega) hs1 hmm
    rw [efw, hlwl] at this
    exact this
  have HOP2 : Hid (∀ (W' : World) (A' : Option Addr) (c' : Nat), Byts W' (fun _ => True) A' c' fw → Calls Try.prog 18 #[.slice A' r2 c'] W' (RetO W' y2 l2.length ((r2 : Int) - (at2 : Int)) ev2)) := Lib.hid fun W' A' c' hB => by
    have := open_any _ A' c' r2 (fw.take r2) W' l2 at2 ev2 _ (hB.take r2) (by rw [List.length_take]; omega) (by omega) hs2 rfl
    rw [ey2] at this
    exact this
  have HT1 : Hid (∀ (W' : World) (base g : Nat) (v : Value), Jrn W' base g v fl ls.length → base ≤ W'.heap.size → Calls Try.prog 27 #[.pointer (some ⟨g, 0, none⟩), .int .i64 ka] W' (RetT W' base g fw W)) := Lib.hid fun W' base g v hj hbs => by
    have := tear_any W' base g v fl ls.length ka r lw at1 ev1 hj (by omega) hr hs1 hbs
    rw [efw, hlwl] at this
    exact this
  have HT2 : Hid (∀ (W' : World) (base g : Nat) (v : Value), Jrn W' base g v fw W → base ≤ W'.heap.size → Calls Try.prog 27 #[.pointer (some ⟨g, 0, none⟩), .int .i64 kb] W' (RetT W' base g y2 l2.length)) := Lib.hid fun W' base g v hj hbs => by
    have := tear_any W' base g v fw W kb r2 l2 at2 ev2 hj (by omega) hr2 hs2 hbs
    rw [ey2] at this
    exact this
  have HREC1 : Hid (∀ (W' : World) (base g : Nat) (v : Value), Jrn W' base g v fw W → Calls Try.prog 20 #[.pointer (some ⟨g, 0, none⟩)] W' (RetR W' lw)) := Lib.hid fun W' base g v hj => records_any W' base g v fw W lw at1 0 hj (by omega) hsf
  have HREC2 : Hid (∀ (W' : World) (base g : Nat) (v : Value), Jrn W' base g v y2 l2.length → Calls Try.prog 20 #[.pointer (some ⟨g, 0, none⟩)] W' (RetR W' l2)) := Lib.hid fun W' base g v hj => records_any W' base g v y2 _ l2 at2 0 hj (by omega) hs2'
  have HWH := Lib.hid hW
  have HFL := Lib.hid hfl
  have hkal' : ka ≤ fl.length := by omega
  have hkbl' : kb ≤ fw.length := by omega
  have hrl2 : r ≤ 2000 := by omega
  have hr22 : r2 ≤ 2000 := by omega
  have HRK := Lib.hid hr
  have HRK2 := Lib.hid hr2
  have hrfl : r ≤ fl.length := by omega
  have hr2fw : r2 ≤ fw.length := by omega
  have qW := run_cutR_h A ls.length c W .i64 (W : Int) rfl (by omega)
  clear efl hfl hflb hr hs1 hW elw hlwl hb1 hsl hat1 hrl efw hfwl hfwf hsf hfwb hmm hr2 hs2 hb2 hsl2 hat2 ey2 hs2' hkal hkbl hsum
  go_enter Try.func6, Try.ntmps6
  go_wp2_with fail
  refine (long_at _ _ _ _ ls _ H.out rfl HSZ.out false (decide_eq_false HBIG.out)).mono ?_
  rintro e w1 ⟨rfl, rfl⟩
  go_wp2_with fail
  refine (new_any w w.heap.size (Nat.le_refl _)).mono ?_
  rintro e w1 ⟨g, v, rfl, hj1, hg1, hv1, hw1⟩
  have HJ1 := Lib.hid hj1; clear hj1
  have HG := Lib.hid hg1; clear hg1
  have HV1 := Lib.hid hv1; clear hv1
  have HW1 := Lib.hid hw1
  go_wp2_with fail
  refine (HADD.out _ g v w.heap.size HJ1.out (H.out.below hw1) HG.out HV1.out hw1.size).mono ?_
  rintro e w2 ⟨v2, rfl, hj2, hv2, hc2⟩
  have HJ2 := Lib.hid hj2; clear hj2
  have HW2 : Hid (Below w.heap.size w w2) := Lib.hid (hw1.trans (hc2.below hw1.size fun b hb => by
    rcases hb with e | e
    · have := HG.out; omega
    · rw [HV1.out] at e; cases e))
  clear hv2 hc2 hw1
  go_wp2_with fail
  refine (bytes_any _ _ _ _ fl _ HJ2.out (by omega)).mono ?_
  rintro e w3 ⟨A3, c3, rfl, ho3, hw3⟩
  clear ho3
  have HJ3 := Lib.hid (HJ2.out.below hw3)
  have HW3 := Lib.hid (blw HW2.out hw3)
  go_wp2_with fail
  refine (HRF.out _ (H.out.below HW3.out)).mono ?_
  rintro e w4 ⟨A4, c4, rfl, ho4, hw4⟩
  clear ho4
  have HJ4 := Lib.hid (HJ3.out.below hw4)
  have HW4 := Lib.hid (blw HW3.out hw4)
  go_wp2_with fail
  simp only [hka]
  refine (bytes_any _ _ _ _ fl _ HJ4.out (by omega)).mono ?_
  rintro e w5 ⟨A5, c5, rfl, ho5, hw5⟩
  have HO5 := Lib.hid (byts_of ho5); clear ho5
  have hc5 := HO5.out.cap
  have q5 := run_cut_h A5 fl.length c5 r .i64 (r : Int) rfl (by omega)
  have HJ5 := Lib.hid (HJ4.out.below hw5)
  have HW5 := Lib.hid (blw HW4.out hw5)
  have HGL : Hid (g < w5.heap.size) := Lib.hid (blk_lt HJ5.out.blk)
  go_wp2_with fail
  refine (HOP1.out _ _ _ HO5.out).mono ?_
  rintro e w6 ⟨gk, vk, rfl, hk6, hw6⟩
  have HK6 := Lib.hid hk6; clear hk6
  have HJ6 := Lib.hid (HJ5.out.below hw6)
  have HW6 := Lib.hid (blw HW5.out hw6)
  go_wp2_with fail
  refine (HT1.out _ _ _ _ HJ6.out HW6.out.size).mono ?_
  rintro e w7 ⟨v7, rfl, hj7, hv7, hc7⟩
  have HJ7 := Lib.hid hj7; clear hj7 hv7
  have HW7 : Hid (Below w.heap.size w w7) := Lib.hid (HW6.out.trans (hc7.below HW6.out.size fun b e => by have := HG.out; omega))
  have HK7 : Hid (Jrn w7 w5.heap.size gk vk fw W) := Lib.hid (HK6.out.keep fun b hb hlt => hc7.block b hlt fun e => by
    have h1 := HGL.out
    have h2 := HK6.out.low
    rcases hb with hb | hb
    · omega
    · have := (HK6.out.own.1.lt b hb).1
      omega)
  have HL7 := Lib.hid (H.out.below HW7.out)
  clear hc7 hc5 q5
  go_wp2
  go_loopw [14, 15, 16] (fun wh a i wr => ∃ (k q : Nat) (v : Int), k ≤ ls.length ∧ i = .int .i64 k ∧ wh = .int .i64 q ∧ a = .int .i64 v ∧ 0 ≤ v ∧ v ≤ 2000 ∧ q ≤ k ∧ wr = w7 ∧ Hid (v = (sz (ls.take k) : Int)) ∧ Hid (q = whole (ls.take k) r)) (fun _ _ i _ => ls.length - (intOf i).toNat)
  case atStart => exact ⟨0, 0, 0, Nat.zero_le _, rfl, rfl, rfl, by omega, by omega, Nat.le_refl _, rfl, Lib.hid (by simp [sz]), Lib.hid (by simp [whole])⟩
  case round =>
    obtain ⟨k, q, v, hk, rfl, rfl, rfl, hv0, hv1, hqk, rfl, HV, HQ⟩ := hrel
    by_cases hlt : k < ls.length
    · obtain ⟨b, off, A', c', x, rfl, _, hx, hc, hB⟩ := HL7.out.at_ hlt
      have e1 : v + 8 + (x.length : Int) = (sz (ls.take (k + 1)) : Int) := by rw [take_snoc_r hx, sz_snoc]; have := HV.out; omega
      have e2 := sz_take ls (k + 1)
      have e3 : v + 8 + (x.length : Int) ≤ 2000 := by have := HBIG.out; omega
      have E1 := Lib.hid e1
      have e4 : whole (ls.take (k + 1)) r = if sz (ls.take (k + 1)) ≤ r then k + 1 else q := by
        rw [take_snoc_r hx, whole_snoc, ← HQ.out, List.length_take, Nat.min_eq_left hk]
      have E4 := Lib.hid e4
      clear e1 e2 e4 hB hx
      by_cases hle : v + 8 + (x.length : Int) ≤ (r : Int)
      · have E5 : Hid (k + 1 = whole (ls.take (k + 1)) r) := Lib.hid (by rw [E4.out, if_pos (by have := E1.out; omega)])
        go_wp2
        go_roundw
        case rel => exact ⟨k + 1, k + 1, v + 8 + (x.length : Int), by omega, by go_num, by go_num, by go_num, by omega, by omega, by omega, trivial, Lib.hid E1.out, E5⟩
        case measure => simp [intOf]; omega
      · have E5 : Hid (q = whole (ls.take (k + 1)) r) := Lib.hid (by rw [E4.out, if_neg (by have := E1.out; omega)])
        go_wp2
        go_roundw
        case rel => exact ⟨k + 1, q, v + 8 + (x.length : Int), by omega, by go_num, by go_num, by go_num, by omega, by omega, by omega, trivial, Lib.hid E1.out, E5⟩
        case measure => simp [intOf]; omega
    · have hqW : q = W := by
        rw [HQ.out, List.take_of_length_le (by omega)]; exact HWH.out
      subst hqW
      clear HQ HV hqk
      go_wp2_with fail
      have HJd : Hid (Jrn wr.drew w.heap.size g v7 fw q) := Lib.hid (HJ7.out.keep fun _ _ _ => rfl)
      have HKd : Hid (Jrn wr.drew w5.heap.size gk vk fw q) := Lib.hid (HK7.out.keep fun _ _ _ => rfl)
      have HWd : Hid (Below w.heap.size w wr.drew) := Lib.hid HW7.out.drew
      go_region_held3 (fun _ => True) (exact trivial) (first
        | (go_at_call_of 20 gk
           refine (HREC1.out _ _ _ _ HK9.out).mono ?_
           rintro e w10 ⟨A10, c10, rfl, ho10, hw10⟩
           have HO10 := Lib.hid (rws_new ho10)
           clear ho10
           have HJ10 := Lib.hid (HJ9.out.below hw10)
           have HW10 := Lib.hid (blw HW9.out hw10))
        | (go_at_call_of 20 g
           refine (HREC1.out _ _ _ _ HJd.out).mono ?_
           rintro e w8 ⟨A8, c8, rfl, ho8, hw8⟩
           have HO8 := Lib.hid (rws_new ho8)
           clear ho8
           have HJ8 := Lib.hid (HJd.out.below hw8)
           have HK8 := Lib.hid (HKd.out.below hw8)
           have HW8 := Lib.hid (blw HWd.out hw8))
        | (go_at_call_of 19 A10
           refine (rsameL_any _ _ _ _ _ _ _ _ lw lw _ HO10.out (HRT.out _ (H.out.below HW10.out)) rfl HLW.out true HSLW.out).mono ?_
           rintro e w11 ⟨rfl, hw11⟩
           have HJ11 := Lib.hid (HJ10.out.below hw11)
           have HW11 := Lib.hid (blw HW10.out hw11))
        | (go_at_call_of 19 A8
           refine (rsameL_any _ _ _ _ _ _ _ _ lw lw _ HO8.out (HRT.out _ (H.out.below HW8.out)) rfl HLW.out true HSLW.out).mono ?_
           rintro e w9 ⟨rfl, hw9⟩
           have HJ9 := Lib.hid (HJ8.out.below hw9)
           have HK9 := Lib.hid (HK8.out.below hw9)
           have HW9 := Lib.hid (blw HW8.out hw9)))
      go_wp2_with fail
      refine (bytes_any _ _ _ _ fw _ HJ11.out (by omega)).mono ?_
      rintro e w12 ⟨A12, c12, rfl, ho12, hw12⟩
      clear ho12
      have HJ12 := Lib.hid (HJ11.out.below hw12)
      have HW12 := Lib.hid (blw HW11.out hw12)
      go_wp2_with fail
      refine (tear_no _ _ _ _ _ _ _ HJ12.out (by omega) (by omega)).mono ?_
      rintro e w13 ⟨rfl, rfl⟩
      go_wp2_with fail
      simp only [hkb]
      refine (HT2.out _ _ _ _ HJ12.out HW12.out.size).mono ?_
      rintro e w13 ⟨v13, rfl, hj13, hv13, hc13⟩
      have HJ13 := Lib.hid hj13; clear hj13 hv13
      have HW13 : Hid (Below w.heap.size w w13) := Lib.hid (HW12.out.trans (hc13.below HW12.out.size fun b e => by have := HG.out; omega))
      clear hc13
      go_wp2_with fail
      refine (HRF2.out _ (H.out.below HW13.out)).mono ?_
      rintro e w14 ⟨A14, c14, rfl, ho14, hw14⟩
      have HO14 := Lib.hid (byts_of ho14); clear ho14
      have hc14 := HO14.out.cap
      have q14 := run_cut_h A14 fw.length c14 r2 .i64 (r2 : Int) rfl (by omega)
      have HJ14 := Lib.hid (HJ13.out.below hw14)
      have HW14 := Lib.hid (blw HW13.out hw14)
      go_wp2_with fail
      refine (HOP2.out _ _ _ HO14.out).mono ?_
      rintro e w15 ⟨go', vo, rfl, hjo, hw15⟩
      have HK15 := Lib.hid hjo; clear hjo
      have HJ15 := Lib.hid (HJ14.out.below hw15)
      have HW15 := Lib.hid (blw HW14.out hw15)
      go_wp2_with fail
      refine (HREC2.out _ _ _ _ HJ15.out).mono ?_
      rintro e w16 ⟨A16, c16, rfl, ho16, hw16⟩
      have HO16 := Lib.hid (rws_new ho16); clear ho16
      have HK16 := Lib.hid (HK15.out.below hw16)
      have HW16 := Lib.hid (blw HW15.out hw16)
      go_wp2_with fail
      refine (HREC2.out _ _ _ _ HK16.out).mono ?_
      rintro e w17 ⟨A17, c17, rfl, ho17, hw17⟩
      have HO17 := Lib.hid (rws_new ho17); clear ho17
      have HO16' := Lib.hid (HO16.out.below hw17)
      have HW17 := Lib.hid (blw HW16.out hw17)
      go_wp2_with fail
      refine (rsameL_any _ _ _ _ _ _ _ _ l2 l2 _ HO16'.out HO17.out rfl rfl true HSL2.out).mono ?_
      rintro e w18 ⟨rfl, hw18⟩
      have HW18 := Lib.hid (blw HW17.out hw18)
      go_wp2_with fail
      refine (known_any _).mono ?_
      rintro e w19 ⟨rfl, hw19⟩
      go_wp2
      go_ret
      exact ⟨rfl, blw HW18.out hw19⟩

namespace journalTears
open Go.ChangeShapes Go.WideShapes Go.ChangeAt Go.RowKit
theorem own : ownKnob Try.prog.godebug = none := by kernel_rfl
theorem laidOut : laidOutB Try.prog = true := by kernel_rfl

set_option maxRecDepth 100000 in
theorem lifted (os : Os) (started : os.Started) (H : Type) (enc : TypeId × Value → H) (F : Stop.Interp) :
    ReturnsInHanded {} Try.checked os 6 .any ((Rows.OpenSpec.upto Rows.journalTearsSpec).pre6 enc Try.prog Try.f6 Rows.journalTearsUptoRow.domain false) (((Rows.OpenSpec.upto Rows.journalTearsSpec).at F).post enc Try.prog Try.f6 false true false false) := by
  refine returnsInHanded_of_cond (C := Try.checked) (s := Rows.OpenSpec.upto Rows.journalTearsSpec) (k := Rows.uptoSmall) rfl own started (by kernel_rfl) Try.func6
    (OpenSpec.witness (enc := enc) (C := Try.checked) (s := Rows.OpenSpec.upto Rows.journalTearsSpec) (k := Rows.uptoSmall) rfl false ⟨#[], #[.slice none 0 0, .int .u16 0, .int .u16 0], []⟩ 8 (by kernel_rfl) (by kernel_rfl) (by kernel_rfl)
      (x := ([.nil, .lit (.int .u16 0), .lit (.int .u16 0)], [], [])) (by kernel_rfl) rfl (by kernel_rfl)) ?_
  intro W base args ds gs before hval0 hW _ hk0 _
  have hval : ∀ (j : Nat) t v, Try.f6.params[j]? = some t → args[j]? = some v → Value.okWide Try.prog W .any base t v := hval0
  have hW' := hW
  obtain ⟨p, q, hA0, hV, rfl, hfz, hnd⟩ := hW
  have hA : DataW.TrodAll enc Try.prog W 0 (fun _ => true) true Try.f6.params.toList args.toList ds p := hA0
  rw [Try.params6] at hA hval
  obtain ⟨v0, vs0, d0, ds0, p0, q0, hargs, rfl, rfl, h0, r0⟩ := trodAll_cons hA
  obtain ⟨v1, vs1, d1, ds1, p1, q1, rfl, rfl, rfl, h1, r1⟩ := trodAll_cons r0
  obtain ⟨v2, vs2, d2, ds2, p2, q2, rfl, rfl, rfl, h2, r2⟩ := trodAll_cons r1
  obtain ⟨rfl, rfl, rfl⟩ := trodAll_nil r2
  obtain rfl : args = #[v0, v1, v2] := by cases args; simp_all
  obtain ⟨rfl, rfl⟩ := trodVars_none hV
  have hk := of_decide_eq_true hk0
  simp only [List.append_nil, Rows.uptoBulkAll] at hk
  have k0 := h0
  have lt0 : ∀ x ∈ p0, x.block < W.heap.size := by obtain ⟨m, hm⟩ := k0; exact DataW.trod_lt m _ _ _ hm
  obtain ⟨A0, l0, c0, e0⟩ := okWide_slice Try.underlying34 (hval 0 34 v0 rfl rfl)
  obtain ⟨fuel0, hf0⟩ := h0
  rw [show v0.cells.toList = [v0] from by rw [e0]; rfl] at hf0
  clear e0 A0 l0 c0
  obtain ⟨A0, c0, z0, rfl, w0, b0⟩ := rows_arg hf0
  have b0' : cnt z0 + 1 ≤ Rows.uptoBulk d0 := b0
  obtain ⟨a1, rfl, rfl, rfl, w1⟩ := open_int Try.underlying50 (hval 1 50 v1 rfl rfl) h1
  obtain ⟨a2, rfl, rfl, rfl, w2⟩ := open_int Try.underlying50 (hval 2 50 v2 rfl rfl) h2
  clear hA0 hval0
  refine (walk_JournalTears W A0 c0 z0 w0 a1 w1 a2 w2 (by omega)).mono fun e W' ⟨he, bel⟩ => ?_
  subst he
  exact ⟨_, rfl, _, _, _, [], _, [], hW', trodAll_mk1 (shut_bool Try.underlying4 _), (trodAll_cons_mk (Below.trod laidOut (by kernel_rfl) (of_decide_eq_true (by kernel_rfl)) k0 bel lt0) (trodAll_cons_mk (shut_int Try.underlying50 w1) (trodAll_cons_mk (shut_int Try.underlying50 w2) trodAll_mk0))), rfl, bel.frame _, fun h => by cases h⟩

theorem over : Rows.journalTearsUptoRow.holds Try.pinned (Rows.OpenSpec.upto Rows.journalTearsSpec) :=
  OpenClaim.holds_of_cond 6 Try.f6 rfl rfl rfl rfl rfl rfl rfl ⟨rfl, rfl, rfl, rfl, rfl⟩ rfl rfl rfl rfl rfl (by kernel_rfl) Try.func6 (by kernel_rfl)
    (of_decide_eq_true (by kernel_rfl)) (by unfold Func.isWrapper; first | (rw [if_pos (by decide +kernel)]; kernel_rfl) | (rw [if_neg (by decide +kernel)]; exact ⟨rfl, rfl⟩))
    (fun os started H enc _ F => lifted os started H enc F)

theorem proved : Rows.JournalTearsUptoSaid := over
#print axioms proved
end journalTears
end Go.Proofs.Ytieeojigonbifaa
