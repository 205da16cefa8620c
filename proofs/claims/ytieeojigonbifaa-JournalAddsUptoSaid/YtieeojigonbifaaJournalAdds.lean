/- JournalAdds: for any two slices of slices of bytes the law returns true, and both read afterwards as before. Condition: the second form's (what is read holds at most 1048576 values and letters). -/
import Derived.Test.YtieeojigonbifaaRows
import Derived.Test.YtieeojigonbifaaJrnArg
import Derived.Test.YtieeojigonbifaaJrnCnt
import Derived.WalkKit
import Derived.ProofKit
import Derived.OpenShut
import Derived.ShutString
import Derived.ChangeOld
import Derived.Below
import Derived.JoinedCond
namespace Go.Proofs.Ytieeojigonbifaa
open Go.ChangeShapes Go.WideShapes Go.ChangeAt Go.RowKit
set_option linter.unusedVariables false

set_option maxRecDepth 100000 in
set_option maxHeartbeats 3200000 in
theorem walk_JournalAdds (w : World) (A : Option Addr) (c : Nat) (xa : List (List Int)) (h : Rws w (fun _ => True) A c xa) (B : Option Addr) (d : Nat) (xb : List (List Int)) (h' : Rws w (fun _ => True) B d xb) (hsum : cnt xa + cnt xb ≤ 1048576) :
    Calls Try.prog 5 #[.slice A xa.length c, .slice B xb.length d] w fun e w' => e = .returned (.bool true) ∧ Below w.heap.size w w' := by
  have hsz1 := sz_cnt xa
  have hsz2 := sz_cnt xb
  have HSZ : Hid (sz xa ≤ 9000000000000000000) := Lib.hid (by omega)
  have HSZ' : Hid (sz xb ≤ 9000000000000000000) := Lib.hid (by omega)
  clear hsz1 hsz2
  have HBT := Lib.hid h.bts
  have HBT' := Lib.hid h'.bts
  have H := Lib.hid h.old; clear h
  have H' := Lib.hid h'.old; clear h'
  by_cases hbig : 2000 < sz xa
  · have HBIG := Lib.hid hbig; clear hbig
    go_enter Try.func5, Try.ntmps5
    go_wp2_with fail
    refine (long_at _ _ _ _ xa _ H.out rfl HSZ.out true (decide_eq_true HBIG.out)).mono ?_
    rintro e w1 ⟨rfl, rfl⟩
    go_wp2_with fail
    refine (known_any _).mono ?_
    rintro e w' ⟨rfl, hw⟩
    go_wp2
    go_ret
    exact ⟨rfl, hw⟩
  have HBIG := Lib.hid hbig; clear hbig
  by_cases hbig' : 2000 < sz xb
  · have HBIG' := Lib.hid hbig'; clear hbig'
    go_enter Try.func5, Try.ntmps5
    go_wp2_with fail
    refine (long_at _ _ _ _ xa _ H.out rfl HSZ.out false (decide_eq_false HBIG.out)).mono ?_
    rintro e w1 ⟨rfl, rfl⟩
    go_wp2_with fail
    refine (long_at _ _ _ _ xb _ H'.out rfl HSZ'.out true (decide_eq_true HBIG'.out)).mono ?_
    rintro e w1 ⟨rfl, rfl⟩
    go_wp2_with fail
    refine (known_any _).mono ?_
    rintro e w' ⟨rfl, hw⟩
    go_wp2
    go_ret
    exact ⟨rfl, hw⟩
  have HBIG' := Lib.hid hbig'; clear hbig'
  have HREC : Hid (Recs xa) := Lib.hid (recs_of HBT.out (by have := HBIG.out; omega))
  have HREC' : Hid (Recs xb) := Lib.hid (recs_of HBT'.out (by have := HBIG'.out; omega))
  have ha1 : xa.length ≤ 2000 := by have := len_sz xa; have := HBIG.out; omega
  have hb1 : xb.length ≤ 2000 := by have := len_sz xb; have := HBIG'.out; omega
  obtain ⟨al, eal⟩ : ∃ al, al = xa ++ xb := ⟨_, rfl⟩
  have hall : al.length = xa.length + xb.length := by rw [eal, List.length_append]
  have HRECA : Hid (Recs al) := Lib.hid (by rw [eal]; exact HREC.out.app HREC'.out)
  have HSZA : Hid (sz al ≤ 4000) := Lib.hid (by rw [eal, sz_app]; have := HBIG.out; have := HBIG'.out; omega)
  have HFA : Hid (frames xa ++ frames xb = frames al) := Lib.hid (by rw [eal, frames_app])
  have HSC : Hid (scan (frames al) = (al, (frames al).length, 0)) := Lib.hid (by rw [frames_len]; exact scan_all HRECA.out)
  have EAL := Lib.hid eal; clear eal
  have HALL := Lib.hid hall
  go_enter Try.func5, Try.ntmps5
  go_wp2_with fail
  refine (long_at _ _ _ _ xa _ H.out rfl HSZ.out false (decide_eq_false HBIG.out)).mono ?_
  rintro e w1 ⟨rfl, rfl⟩
  go_wp2_with fail
  refine (long_at _ _ _ _ xb _ H'.out rfl HSZ'.out false (decide_eq_false HBIG'.out)).mono ?_
  rintro e w1 ⟨rfl, rfl⟩
  go_wp2_with fail
  refine (new_any w w.heap.size (Nat.le_refl _)).mono ?_
  rintro e w1 ⟨g, v, rfl, hj1, hg1, hv1, hw1⟩
  have HJ1 := Lib.hid hj1; clear hj1
  have HG1 := Lib.hid hg1; clear hg1
  have HV1 := Lib.hid hv1; clear hv1
  have HH1 := Lib.hid (H.out.below hw1)
  have HH1' := Lib.hid (H'.out.below hw1)
  have HW1 := Lib.hid hw1
  go_wp2_with fail
  refine (add_any _ w.heap.size g v [] 0 _ _ _ xa _ HJ1.out HH1.out rfl ?_ HREC.out (by have := HBIG.out; simp; omega) (by omega) HW1.out.size).mono ?_
  · rintro b hb (e | e)
    · have := HG1.out; omega
    · rw [HV1.out] at e; cases e
  rintro e w2 ⟨v2, rfl, hj2, hv2, hc2⟩
  rw [List.nil_append, Nat.zero_add] at hj2
  have HJ2 := Lib.hid hj2; clear hj2
  have HV2 : Hid (∀ b, JB g v2 b → w.heap.size ≤ b) := Lib.hid (by
    rintro b (e | e)
    · have := HG1.out; omega
    · exact (HJ2.out.own.1.lt b e).1)
  have HC2 : Hid (Below w.heap.size w w2) := Lib.hid (hw1.trans (hc2.below hw1.size fun b hb => by
    rcases hb with e | e
    · have := HG1.out; omega
    · rw [HV1.out] at e; cases e))
  clear hv2 hc2 hw1
  have HH2' := Lib.hid (H'.out.below HC2.out)
  go_wp2_with fail
  refine (add_any _ w.heap.size g v2 (frames xa) xa.length _ _ _ xb _ HJ2.out HH2'.out rfl ?_ HREC'.out (by rw [frames_len]; have := HBIG.out; have := HBIG'.out; omega) (by omega) HC2.out.size).mono ?_
  · intro b hb e
    have := HV2.out b e
    omega
  rintro e w3 ⟨v3, rfl, hj3, hv3, hc3⟩
  rw [HFA.out, ← HALL.out] at hj3
  have HJ3 := Lib.hid hj3; clear hj3
  have HC3 : Hid (Below w.heap.size w w3) := Lib.hid (HC2.out.trans (hc3.below HC2.out.size fun b hb => HV2.out b hb))
  clear hv3 hc3
  go_wp2_with fail
  refine (new_any w3 w.heap.size HC3.out.size).mono ?_
  rintro e w4 ⟨gk, vk, rfl, hk4, hgk, hvk, hw4⟩
  have HK4 := Lib.hid hk4; clear hk4
  have HGK := Lib.hid hgk; clear hgk
  have HVK := Lib.hid hvk; clear hvk
  have HW4 := Lib.hid hw4; clear hw4
  have HGK2 : Hid (gk < w4.heap.size) := Lib.hid (blk_lt HK4.out.blk)
  have HC4 := Lib.hid (blw HC3.out HW4.out)
  have HA4 := Lib.hid (H.out.below HC4.out)
  have HB4 := Lib.hid (H'.out.below HC4.out)
  have HZ4 := Lib.hid HC4.out.size
  go_wp2_with (at_builtin; first
    | (refine wpList_appr rfl (.tmp 29) (.tmp 30) rfl w4.heap.size (fun b => b < w.heap.size) (.slice none 0 0) [] rfl (OwnR.nil _ _ _) A c xa.length _ xa rfl rfl HA4.out (fun b _ hb => ⟨hb, by simp [Value.ownBlock]⟩) (by simp; omega) (Nat.le_refl _) ?_; intro l5 A5 c5 w5 el5 ho5 hg5 hb5 hw5; have EL5 := Lib.hid el5; clear el5; have hl5 : l5.length ≤ 2000 := (by rw [EL5.out]; simp; omega); have HB5 := Lib.hid (HB4.out.below hw5); have HO5 := Lib.hid ho5; have HW5 := Lib.hid hw5; clear ho5 hg5 hb5 hw5)
    | (refine wpList_appr rfl (.tmp 32) (.tmp 33) rfl w4.heap.size (fun b => b < w.heap.size) (.slice A5 l5.length c5) l5 rfl HO5.out B d xb.length _ xb rfl rfl HB5.out (fun b _ hb => ⟨hb, fun e => by have := (HO5.out.own b e).1; have := HZ4.out; omega⟩) (by omega) HW5.out.size ?_; intro l6 A6 c6 w6 el6 ho6 hg6 hb6 hw6; have EL6 := Lib.hid el6; clear el6; have HO6 := Lib.hid ho6; have HW6 := Lib.hid (HW5.out.trans hw6); clear ho6 hg6 hb6 hw6))
  have e6 : l6 = al := by rw [EL6.out, EL5.out, EAL.out]; simp
  subst e6
  have hl6 : l6.length ≤ 4000 := by omega
  have hl6' : (l6.length : Int) ≤ 4000 := by omega
  clear hall
  have HBW : Hid (Below w.heap.size w w6) := Lib.hid (blw HC4.out HW6.out)
  have HB36 : Hid (Below w3.heap.size w3 w6) := Lib.hid (blw HW4.out HW6.out)
  have HZ3 := Lib.hid HC3.out.size
  have HZ6 := Lib.hid HW6.out.size
  have HK6 : Hid (Jrn w6 w.heap.size gk vk (frames (l6.take 0)) 0) := Lib.hid (HK4.out.below HW6.out)
  have HOWN := Lib.hid HO6.out.own
  go_loopw [10] (fun i wr => ∃ (k : Nat) (vk' : Value), k ≤ l6.length ∧ i = .int .i64 k ∧ Hid (Jrn wr w.heap.size gk vk' (frames (l6.take k)) k) ∧ Hid (∀ b, vk'.ownBlock = some b → w6.heap.size ≤ b) ∧ Hid (Chg (fun b => b = gk) w6 wr)) (fun i _ => l6.length - (intOf i).toNat)
  case atStart => exact ⟨0, vk, Nat.zero_le _, rfl, HK6, Lib.hid (fun b e => by rw [HVK.out] at e; cases e), Lib.hid (Chg.refl _ _)⟩
  case round =>
    obtain ⟨k, vk', hk, rfl, HJK, HOK, HC⟩ := hrel
    have HZR := Lib.hid HC.out.size
    have HOR : Hid (OwnR wr w4.heap.size (fun b => b < w.heap.size) (Value.slice A6 l6.length c6) l6) := Lib.hid (HO6.out.keep fun b hb hlt => HC.out.block b hlt fun e => by
      have h1 := HGK.out
      have h2 := HGK2.out
      have h3 := HZ3.out
      rcases hb with hb | hb
      · omega
      · have := (HOWN.out b hb).1
        omega)
    have HRR := Lib.hid (rws_of HOR.out)
    by_cases hlt : k < l6.length
    · obtain ⟨b, off, A', c', x, rfl, _, hx, hc, hB⟩ := HRR.out.at_ hlt
      have HX := Lib.hid hx; clear hx
      have HB : Hid (Byts wr (fun b => b < w.heap.size ∨ (w4.heap.size ≤ b ∧ vk'.ownBlock ≠ some b)) A' c' x) := Lib.hid (hB.mono fun b' hlt' hb => by
        rcases hb with hb | ⟨h1, h2⟩
        · exact Or.inl hb
        · refine Or.inr ⟨h1, fun e => ?_⟩
          have h3 := HOK.out b' e
          have h4 := (HOWN.out b' h2).2
          omega)
      clear hB
      have hrx := HRECA.out x (List.mem_of_getElem? HX.out)
      have HRX : Hid (Recs [x]) := Lib.hid (fun y hy => by simp at hy; subst hy; exact hrx)
      clear hrx
      go_wp2_with fail
      refine (add_any (fun b => b < w.heap.size ∨ (w4.heap.size ≤ b ∧ vk'.ownBlock ≠ some b)) w.heap.size gk vk' (frames (l6.take k)) k _ _ _ [x] _ (jrn_alloc HJK.out _) (Rws.one HB.out rfl rfl ?_) rfl ?_ HRX.out ?_ (by simp; omega) ?_).mono ?_
      · refine Or.inr ⟨?_, fun e => ?_⟩
        · have := HZ6.out; have := HZR.out; omega
        · have := (HJK.out.own.1.lt _ e).2
          omega
      · intro b' hb hj
        have h1 := HGK.out
        have h2 := HGK2.out
        have h3 := HZ3.out
        have h4 := HZ4.out
        have h6 := HZ6.out
        rcases hj with hj | hj
        · rcases hb with hb | hb <;> omega
        · have h5 := HOK.out b' hj
          rcases hb with hb | hb
          · omega
          · exact hb.2 hj
      · have h1 := sz_take l6 (k + 1)
        have h2 := HSZA.out
        rw [take_snoc_r HX.out, sz_snoc] at h1
        rw [frames_len]
        simp only [sz]
        omega
      · have := HZR.out; have := HZ6.out; have := HZ4.out; simp; omega
      rintro e w7 ⟨v7, rfl, hj7, hv7, hc7⟩
      have HJ7 : Hid (Jrn w7 w.heap.size gk v7 (frames (l6.take (k + 1))) (k + 1)) := Lib.hid (by
        rw [take_snoc_r HX.out, frames_snoc]
        simpa [frames] using hj7)
      have HV7 : Hid (∀ b, v7.ownBlock = some b → w6.heap.size ≤ b) := Lib.hid (fun b' e => by
        rcases hv7 with h | ⟨k', h, h'⟩
        · rw [h] at e; exact HOK.out b' e
        · rw [h] at e; injection e with e; have := HZR.out; simp at h'; omega)
      have HC7 : Hid (Chg (fun b => b = gk) w6 w7) := Lib.hid ((HC.out.trans (Chg.of_below ((Below.refl _ _).alloc (Nat.le_refl _) _))).next hc7 fun b' hb' hj => by
        rcases hj with hj | hj
        · exact hj
        · have := HOK.out b' hj; omega)
      clear hj7 hv7 hc7
      go_wp2
      go_roundw
      case rel => exact ⟨k + 1, v7, by omega, by go_num, HJ7, HV7, HC7⟩
      case measure => simp [intOf]; omega
    · have hkl : k = l6.length := by omega
      subst hkl
      clear hlt
      obtain ⟨fl, efl⟩ : ∃ fl, frames l6 = fl := ⟨_, rfl⟩
      have hfl : fl.length ≤ 4000 := by rw [← efl, frames_len]; exact HSZA.out
      have HJK2 : Hid (Jrn wr w.heap.size gk vk' fl l6.length) := Lib.hid (by have := HJK.out; rw [List.take_length, efl] at this; exact this)
      have HJR : Hid (Jrn wr w.heap.size g v3 fl l6.length) := Lib.hid (by
        rw [← efl]
        refine HJ3.out.keep fun b hb hlt => ?_
        have h1 := HGK.out
        have h2 := HB36.out.size
        rw [HC.out.block b (by omega) (by omega), HB36.out.block b hlt])
      have HBR : Hid (Below w.heap.size w wr) := Lib.hid (HBW.out.trans (HC.out.below HBW.out.size fun b e => by have := HGK.out; have := HZ3.out; omega))
      rw [efl] at HSC
      have HFR : Hid (∀ W, Rws W (fun b => b < w.heap.size ∨ w4.heap.size ≤ b ∧ (Value.slice A6 l6.length c6).ownBlock = some b) A6 c6 l6 → Calls Try.prog 26 #[.slice A6 l6.length c6] W (RetB W fl)) := Lib.hid fun W hW => by
        have := rframes_any _ A6 c6 l6.length l6 W hW rfl HRECA.out (by have := HSZA.out; omega)
        rw [efl] at this
        exact this
      have HSL : Hid (sameL l6 l6 = true) := Lib.hid (by simp [sameL])
      have HSB : Hid (sameB fl fl = true) := Lib.hid (by simp [sameB])
      clear efl
      have hfl9 : fl.length ≤ 90000000 := by omega
      have hfl4 : fl.length ≤ 4194304 := by omega
      go_wp2_with fail
      refine (bytes_any _ _ _ _ fl _ HJR.out hfl9).mono ?_
      rintro e w7 ⟨A7, c7, rfl, ho7, hw7⟩
      have HO7 := Lib.hid ho7; clear ho7
      have HW7 := Lib.hid (blw HBR.out hw7)
      have HJ7 := Lib.hid (HJR.out.below hw7)
      have HK7 := Lib.hid (HJK2.out.below hw7)
      have HA7 := Lib.hid (HRR.out.below hw7)
      go_wp2_with fail
      refine (open_any _ _ _ _ fl _ l6 fl.length 0 0 (byts_of HO7.out) rfl hfl4 HSC.out (by omega)).mono ?_
      rw [List.take_length]
      rintro e w8 ⟨g8, v8, rfl, hj8, hw8⟩
      have HO8 := Lib.hid hj8; clear hj8
      have HW8 := Lib.hid (blw HW7.out hw8)
      have HJ8 := Lib.hid (HJ7.out.below hw8)
      have HK8 := Lib.hid (HK7.out.below hw8)
      have HA8 := Lib.hid (HA7.out.below hw8)
      go_wp2_with fail
      refine (records_any _ _ _ _ fl _ l6 fl.length 0 HJ8.out hfl4 HSC.out).mono ?_
      rintro e w9 ⟨A9, c9, rfl, ho9, hw9⟩
      have HO9 := Lib.hid (rws_new ho9); clear ho9
      have HW9 := Lib.hid (blw HW8.out hw9)
      have HJ9 := Lib.hid (HJ8.out.below hw9)
      have HK9 := Lib.hid (HK8.out.below hw9)
      have HP9 := Lib.hid (HO8.out.below hw9)
      have HA9 := Lib.hid (HA8.out.below hw9)
      go_wp2_with fail
      refine (rsameL_any _ _ _ _ _ _ _ _ l6 l6 _ HO9.out HA9.out rfl rfl true HSL.out).mono ?_
      rintro e w10 ⟨rfl, hw10⟩
      have HW10 := Lib.hid (blw HW9.out hw10)
      have HJ10 := Lib.hid (HJ9.out.below hw10)
      have HK10 := Lib.hid (HK9.out.below hw10)
      have HP10 := Lib.hid (HP9.out.below hw10)
      have HA10 := Lib.hid (HA9.out.below hw10)
      go_wp2_with fail
      refine (len_any _ _ _ _ _ _ HJ10.out).mono ?_
      rintro e w11 ⟨rfl, rfl⟩
      go_wp2_with fail
      refine (bytes_any _ _ _ _ fl _ HJ10.out hfl9).mono ?_
      rintro e w11 ⟨A11, c11, rfl, ho11, hw11⟩
      have HO11 := Lib.hid (byts_of ho11); clear ho11
      have HW11 := Lib.hid (blw HW10.out hw11)
      have HJ11 := Lib.hid (HJ10.out.below hw11)
      have HK11 := Lib.hid (HK10.out.below hw11)
      have HP11 := Lib.hid (HP10.out.below hw11)
      have HA11 := Lib.hid (HA10.out.below hw11)
      go_wp2_with fail
      refine (bytes_any _ _ _ _ fl _ HK11.out hfl9).mono ?_
      rintro e w12 ⟨A12, c12, rfl, ho12, hw12⟩
      have HO12 := Lib.hid (byts_of ho12); clear ho12
      have HO11' := Lib.hid (HO11.out.below hw12)
      have HW12 := Lib.hid (blw HW11.out hw12)
      have HJ12 := Lib.hid (HJ11.out.below hw12)
      have HP12 := Lib.hid (HP11.out.below hw12)
      have HA12 := Lib.hid (HA11.out.below hw12)
      go_wp2_with fail
      refine (rsame_any _ _ _ _ _ _ _ _ fl fl _ HO11'.out HO12.out rfl rfl true HSB.out).mono ?_
      rintro e w13 ⟨rfl, rfl⟩
      go_wp2_with fail
      refine (bytes_any _ _ _ _ fl _ HJ12.out hfl9).mono ?_
      rintro e w13 ⟨A13, c13, rfl, ho13, hw13⟩
      have HO13 := Lib.hid (byts_of ho13); clear ho13
      have HW13 := Lib.hid (blw HW12.out hw13)
      have HP13 := Lib.hid (HP12.out.below hw13)
      have HA13 := Lib.hid (HA12.out.below hw13)
      go_wp2_with fail
      refine (HFR.out _ HA13.out).mono ?_
      rintro e w14 ⟨A14, c14, rfl, ho14, hw14⟩
      have HO14 := Lib.hid (byts_of ho14); clear ho14
      have HO13' := Lib.hid (HO13.out.below hw14)
      have HW14 := Lib.hid (blw HW13.out hw14)
      have HP14 := Lib.hid (HP13.out.below hw14)
      have HA14 := Lib.hid (HA13.out.below hw14)
      go_wp2_with fail
      refine (rsame_any _ _ _ _ _ _ _ _ fl fl _ HO13'.out HO14.out rfl rfl true HSB.out).mono ?_
      rintro e w15 ⟨rfl, rfl⟩
      go_wp2_with fail
      refine (records_any _ _ _ _ fl _ l6 fl.length 0 HP14.out hfl4 HSC.out).mono ?_
      rintro e w15 ⟨A15, c15, rfl, ho15, hw15⟩
      have HO15 := Lib.hid (rws_new ho15); clear ho15
      have HW15 := Lib.hid (blw HW14.out hw15)
      have HA15 := Lib.hid (HA14.out.below hw15)
      go_wp2_with fail
      refine (rsameL_any _ _ _ _ _ _ _ _ l6 l6 _ HO15.out HA15.out rfl rfl true HSL.out).mono ?_
      rintro e w16 ⟨rfl, hw16⟩
      have HW16 := Lib.hid (blw HW15.out hw16)
      go_wp2_with fail
      refine (known_any _).mono ?_
      rintro e w17 ⟨rfl, hw17⟩
      go_wp2
      go_ret
      exact ⟨rfl, blw HW16.out hw17⟩

namespace journalAdds
open Go.ChangeShapes Go.WideShapes Go.ChangeAt Go.RowKit
theorem own : ownKnob Try.prog.godebug = none := by kernel_rfl
theorem laidOut : laidOutB Try.prog = true := by kernel_rfl

set_option maxRecDepth 100000 in
theorem lifted (os : Os) (started : os.Started) (H : Type) (enc : TypeId × Value → H) (F : Stop.Interp) :
    ReturnsInHanded {} Try.checked os 5 .any ((Rows.OpenSpec.upto Rows.journalAddsSpec).pre6 enc Try.prog Try.f5 Rows.journalAddsUptoRow.domain false) (((Rows.OpenSpec.upto Rows.journalAddsSpec).at F).post enc Try.prog Try.f5 false true false false) := by
  refine returnsInHanded_of_cond (C := Try.checked) (s := Rows.OpenSpec.upto Rows.journalAddsSpec) (k := Rows.uptoSmall) rfl own started (by kernel_rfl) Try.func5
    (OpenSpec.witness (enc := enc) (C := Try.checked) (s := Rows.OpenSpec.upto Rows.journalAddsSpec) (k := Rows.uptoSmall) rfl false ⟨#[], #[.slice none 0 0, .slice none 0 0], []⟩ 8 (by kernel_rfl) (by kernel_rfl) (by kernel_rfl)
      (x := ([.nil, .nil], [], [])) (by kernel_rfl) rfl (by kernel_rfl)) ?_
  intro W base args ds gs before hval0 hW _ hk0 _
  have hval : ∀ (j : Nat) t v, Try.f5.params[j]? = some t → args[j]? = some v → Value.okWide Try.prog W .any base t v := hval0
  have hW' := hW
  obtain ⟨p, q, hA0, hV, rfl, hfz, hnd⟩ := hW
  have hA : DataW.TrodAll enc Try.prog W 0 (fun _ => true) true Try.f5.params.toList args.toList ds p := hA0
  rw [Try.params5] at hA hval
  obtain ⟨v0, vs0, d0, ds0, p0, q0, hargs, rfl, rfl, h0, r0⟩ := trodAll_cons hA
  obtain ⟨v1, vs1, d1, ds1, p1, q1, rfl, rfl, rfl, h1, r1⟩ := trodAll_cons r0
  obtain ⟨rfl, rfl, rfl⟩ := trodAll_nil r1
  obtain rfl : args = #[v0, v1] := by cases args; simp_all
  obtain ⟨rfl, rfl⟩ := trodVars_none hV
  have hk := of_decide_eq_true hk0
  simp only [List.append_nil, Rows.uptoBulkAll] at hk
  have k0 := h0
  have lt0 : ∀ x ∈ p0, x.block < W.heap.size := by obtain ⟨m, hm⟩ := k0; exact DataW.trod_lt m _ _ _ hm
  obtain ⟨A0, l0, c0, e0⟩ := okWide_slice Try.underlying34 (hval 0 34 v0 rfl rfl)
  obtain ⟨fuel0, hf0⟩ := h0
  rw [show v0.cells.toList = [v0] from by rw [e0]; rfl] at hf0
  clear e0 A0 l0 c0
  obtain ⟨A0, c0, z0, rfl, w0, b0⟩ := rows_arg hf0
  have b0' : cnt z0 + 1 ≤ Rows.uptoBulk d0 := b0
  have k1 := h1
  have lt1 : ∀ x ∈ p1, x.block < W.heap.size := by obtain ⟨m, hm⟩ := k1; exact DataW.trod_lt m _ _ _ hm
  obtain ⟨A1, l1, c1, e1⟩ := okWide_slice Try.underlying34 (hval 1 34 v1 rfl rfl)
  obtain ⟨fuel1, hf1⟩ := h1
  rw [show v1.cells.toList = [v1] from by rw [e1]; rfl] at hf1
  clear e1 A1 l1 c1
  obtain ⟨A1, c1, z1, rfl, w1, b1⟩ := rows_arg hf1
  have b1' : cnt z1 + 1 ≤ Rows.uptoBulk d1 := b1
  clear hA0 hval0
  refine (walk_JournalAdds W A0 c0 z0 w0 A1 c1 z1 w1 (by omega)).mono fun e W' ⟨he, bel⟩ => ?_
  subst he
  exact ⟨_, rfl, _, _, _, [], _, [], hW', trodAll_mk1 (shut_bool Try.underlying4 _), (trodAll_cons_mk (Below.trod laidOut (by kernel_rfl) (of_decide_eq_true (by kernel_rfl)) k0 bel lt0) (trodAll_cons_mk (Below.trod laidOut (by kernel_rfl) (of_decide_eq_true (by kernel_rfl)) k1 bel lt1) trodAll_mk0)), rfl, bel.frame _, fun h => by cases h⟩

theorem over : Rows.journalAddsUptoRow.holds Try.pinned (Rows.OpenSpec.upto Rows.journalAddsSpec) :=
  OpenClaim.holds_of_cond 5 Try.f5 rfl rfl rfl rfl rfl rfl rfl ⟨rfl, rfl, rfl, rfl, rfl⟩ rfl rfl rfl rfl rfl (by kernel_rfl) Try.func5 (by kernel_rfl)
    (of_decide_eq_true (by kernel_rfl)) (by unfold Func.isWrapper; first | (rw [if_pos (by decide +kernel)]; kernel_rfl) | (rw [if_neg (by decide +kernel)]; exact ⟨rfl, rfl⟩))
    (fun os started H enc _ F => lifted os started H enc F)

theorem proved : Rows.JournalAddsUptoSaid := over
#print axioms proved
end journalAdds
end Go.Proofs.Ytieeojigonbifaa
