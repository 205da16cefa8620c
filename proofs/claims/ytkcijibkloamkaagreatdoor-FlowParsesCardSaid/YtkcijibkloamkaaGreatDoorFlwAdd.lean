/- A line taken in. -/
import Derived.Test.YtkcijibkloamkaaGreatDoorFlwLnk
namespace Go.Proofs.YtkcijibkloamkaaGreatDoor
open Go.RowKit
open Txt (sameS)
set_option linter.unusedVariables false
set_option maxRecDepth 100000

theorem RetD.from_ {w w1 w' : World} {base D : Nat} {r : Except Int St} {e : Ending} (h : RetD w1 base D r e w') (hb : Below base w w1) : RetD w base D r e w' := by
  obtain ⟨x, s', h1, h2, h3, h4⟩ := h
  exact ⟨x, s', h1, h2, hb.trans h3, h4⟩
theorem classD_len {h : List UInt8} {t x : List (List UInt8)} {k : Nat} (hc : classD h t = some (k, x)) (h8 : k ≠ 8) : (x.length : Int) = wordsN k ∧ x = t := by
  unfold classD at hc
  split at hc
  · cases hc
  · cases hf : famD t with
    | none => rw [hf] at hc; cases hc
    | some y => rw [hf] at hc; injection hc with hc; injection hc with e1 e2; exact absurd e1.symm h8
  · split at hc
    · injection hc with hc; injection hc with e1 e2; subst e1 e2; exact ⟨by assumption, rfl⟩
    · cases hc
theorem classD_fam {h : List UInt8} {t x : List (List UInt8)} (hc : classD h t = some (8, x)) : famD t = some x := by
  unfold classD at hc
  split at hc
  · cases hc
  · cases hf : famD t with
    | none => rw [hf] at hc; cases hc
    | some y => rw [hf] at hc; injection hc with hc; injection hc with e1 e2; rw [e2]
  · split at hc
    · rename_i h8 k e _
      injection hc with hc; injection hc with e1 e2; exact absurd e1 (by assumption)
    · cases hc
theorem isChild_self : isChild childW = true := by decide
theorem fam_idx {t x : List (List UInt8)} (hf : famD t = some x) : ∃ q, x.idxOf childW = q ∧ 0 < q ∧ q + 1 < x.length ∧ x.length = t.length ∧ x = t.set q childW := by
  obtain ⟨q, hq, h0, h1, ha, hx, _⟩ := famD_some hf
  have hxl : x.length = t.length := by rw [hx, List.length_set]
  refine ⟨q, ?_, h0, by omega, hxl, hx⟩
  have hql : q < x.length := by omega
  unfold List.idxOf
  rw [List.findIdx_eq hql]
  refine ⟨?_, fun j hj => ?_⟩
  · have : x[q] = childW := by
      subst hx
      rw [List.getElem_set_self]
    rw [this]; simp
  · have hjl : j < t.length := by omega
    have hxj : x[j]'(by omega) = t[j] := by
      subst hx
      rw [List.getElem_set_ne (by omega)]
    rw [hxj]
    have h5 := List.not_of_lt_findIdx (p := isChild) (xs := t) (i := j) (by omega)
    rw [beq_eq_false_iff_ne]
    intro e
    rw [e, isChild_self] at h5
    exact absurd h5 (by decide)
theorem classD_mem {h : List UInt8} {t x : List (List UInt8)} {k : Nat} (hc : classD h t = some (k, x)) {n : Nat} (hn : 5 ≤ n) (ht : ∀ s ∈ h :: t, s.length ≤ n) : ∀ s ∈ x, s.length ≤ n := by
  by_cases h8 : k = 8
  · subst h8
    obtain ⟨q, _, _, _, _, rfl⟩ := fam_idx (classD_fam hc)
    intro s hs
    rcases List.mem_or_eq_of_mem_set hs with hs | rfl
    · exact ht s (by simp [hs])
    · exact hn
  · obtain ⟨_, rfl⟩ := classD_len hc h8
    exact fun s hs => ht s (by simp [hs])
theorem len_one {x : List (List UInt8)} (h : (x.length : Int) = 1) : ∃ a, x = [a] := by
  match x, h with
  | [a], _ => exact ⟨a, rfl⟩
  | [], h => simp at h
  | a :: b :: r, h => simp at h; omega
theorem len_two {x : List (List UInt8)} (h : (x.length : Int) = 2) : ∃ a b, x = [a, b] := by
  match x, h with
  | [a, b], _ => exact ⟨a, b, rfl⟩
  | [], h => simp at h
  | [a], h => simp at h
  | a :: b :: d :: r, h => simp at h; omega

theorem addSt_0 (s : St) (a : List UInt8) : addSt s 0 [a] = beginSt s a := by
  unfold addSt
  rw [if_neg (fun e => e.1 rfl), if_neg (by decide)]
  simp only [if_true]
theorem addSt_8 (s : St) (x : List (List UInt8)) (h : s.had 0 = true) : addSt s 8 x = parSt s x := by
  unfold addSt
  rw [if_neg (fun e => by rw [h] at e; exact absurd e.2 (by decide)), if_pos rfl]
theorem addSt_12 (s : St) (a : List UInt8) (k : Nat) (hk : k = 1 ∨ k = 2) (h : s.had 0 = true) : addSt s k [a] = setSt s k a := by
  unfold addSt
  rw [if_neg (fun e => by rw [h] at e; exact absurd e.2 (by decide)), if_neg (by omega)]
  simp only
  rw [if_neg (by omega), if_pos hk]
theorem addSt_3 (s : St) (a : List UInt8) (h : s.had 0 = true) : addSt s 3 [a] = jobSt s a := by
  unfold addSt
  rw [if_neg (fun e => by rw [h] at e; exact absurd e.2 (by decide)), if_neg (by decide)]
  simp only
  rw [if_neg (by decide), if_neg (by decide)]
  exact if_pos trivial
theorem addSt_k (s : St) (a : List UInt8) (r : List (List UInt8)) (k : Nat) (hk : k = 4 ∨ k = 5 ∨ k = 6 ∨ k = 7) (h : s.had 0 = true) : addSt s k (a :: r) = taskSt s k a r := by
  unfold addSt
  rw [if_neg (fun e => by rw [h] at e; exact absurd e.2 (by decide)), if_neg (by omega)]
  simp only
  rw [if_neg (by omega), if_neg (by omega), if_neg (by omega)]

set_option maxHeartbeats 6400000 in
theorem add_any (s : St) (h : List UInt8) (t : List (List UInt8)) (n : Nat) (hn : t.length + 1 = n) (hm : n ≤ 100000) (w : World) (base D : Nat) (hD : Drf w base D s) (A : Option Addr) (c : Nat) (hW : Words w A c (h :: t)) (hs : ∀ x ∈ h :: t, x.length ≤ 1100000) (hw : base ≤ w.heap.size)
    (hSB : ∀ w', Below base w w' → TabS w') (hTB : ∀ w', Below base w w' → Txt.Tabs w') (hgb : 0 < base) (ht : s.tasks.length ≤ 100000) (hk : s.links.length ≤ 100000) :
    Calls Tryz.prog 73 #[.pointer (some ⟨D, 0, none⟩), .slice A n c] w (RetD w base D (addW s h t)) := by
  subst hn
  have HD := Lib.hid hD; have HW := Lib.hid hW; have HSB := Lib.hid hSB; have HTB := Lib.hid hTB
  have HSH := Lib.hid (show Short (h :: t) from fun x hx => Nat.le_trans (hs x hx) (by decide))
  have HS := Lib.hid hs
  clear hD hW hSB hTB hs
  cases hc : classD h t with
  | none =>
    have HC := Lib.hid hc
    have HN := Lib.hid (show addW s h t = .error 50 from by unfold addW; rw [hc])
    clear hc
    go_enter Tryz.func73, Tryz.ntmps73
    go_wp2_with fail
    refine (classify_any h t _ rfl _ A c HW.out HSH.out (by omega) (HSB.out _ (Below.refl _ _))).mono ?_
    rintro e w1 ⟨hb1, h1⟩
    rw [HC.out] at h1
    obtain ⟨k, rfl⟩ := h1
    go_wp2
    go_ret
    exact ret_err HN.out (by decide) (HD.out.below hb1) (hb1.mono hw)
  | some p =>
    obtain ⟨k, x⟩ := p
    have HC := Lib.hid hc
    have HA := Lib.hid (show addW s h t = addSt s k x from by unfold addW; rw [hc])
    have HM := Lib.hid (classD_mem hc (n := 1100000) (by decide) HS.out)
    have HLN : Hid (k ≠ 8 → (x.length : Int) = wordsN k) := Lib.hid fun h8 => (classD_len hc h8).1
    have HFM : Hid (k = 8 → famD t = some x) := Lib.hid fun e => by subst e; exact classD_fam hc
    clear hc
    go_enter Tryz.func73, Tryz.ntmps73
    go_wp2_with fail
    refine (classify_any h t _ rfl _ A c HW.out HSH.out (by omega) (HSB.out _ (Below.refl _ _))).mono ?_
    rintro e w1 ⟨hb1, h1⟩
    rw [HC.out] at h1
    obtain ⟨hk9, A2, c2, rfl, hW2, hT2⟩ := h1
    have HB1 := Lib.hid (hb1.mono hw)
    have HW2 := Lib.hid hW2; have HT2 := Lib.hid hT2
    have HD1 := Lib.hid (HD.out.below hb1)
    have hw1 : base ≤ w1.heap.size := Nat.le_trans hw hb1.size
    obtain ⟨TA, tc, HA', hc', LA, lc, M, hDD, _⟩ := HD1.out.ex
    have c4 := (Drf.cells hDD 4).1
    have hlt := Dag.blk_lt hDD
    simp only [draftC, List.getElem?_toArray, List.getElem?_cons_succ, List.getElem?_cons_zero] at c4
    clear hb1 hW2 hT2 hDD HD HW
    have HS1 : Hid (∀ w', Below base w1 w' → TabS w') := Lib.hid fun w' hb => HSB.out _ (HB1.out.trans hb)
    have HT1 : Hid (∀ w', Below base w1 w' → Txt.Tabs w') := Lib.hid fun w' hb => HTB.out _ (HB1.out.trans hb)
    have hm9 : ∀ {a : List UInt8}, a.length ≤ 1100000 → a.length ≤ 9000000000000000000 := fun h => Nat.le_trans h (by decide)
    have hmm : ∀ {a : List UInt8}, a.length ≤ 1100000 → a.length ≤ maxLen := fun h => Nat.le_trans h (by decide)
    by_cases hk0 : k = 0
    · subst hk0
      obtain ⟨a, rfl⟩ := len_one (HLN.out (by decide))
      have HN := Lib.hid (show addW s h t = beginSt s a from by rw [HA.out, addSt_0])
      obtain ⟨bw, ow, y, rfl, hy, hcw⟩ := HW2.out.at_ (k := 0) (by simp)
      rw [List.getElem?_cons_zero] at hy; injection hy with hy; subst hy
      rw [Nat.add_zero] at hcw
      have hla := HM.out a (by simp)
      go_wp2_with fail
      refine (begin_any s a _ base D HD1.out (HT1.out _ (Below.refl _ _)) (hm9 hla) hw1).mono ?_
      rintro e w2 h2
      rw [← HN.out] at h2
      have h3 := h2.from_ HB1.out
      obtain ⟨z, s', rfl, r⟩ := h3
      go_wp2
      go_ret
      exact ⟨z, s', rfl, r⟩
    have hkne : ((k : Int) != 0) = true := by simp; omega
    cases hh : s.had 0
    · rw [hh] at c4
      have HN := Lib.hid (show addW s h t = .error 50 from by rw [HA.out]; unfold addSt; rw [if_pos ⟨hk0, hh⟩])
      go_wp2
      go_ret
      exact ret_err HN.out (by decide) HD1.out HB1.out
    rw [hh] at c4
    have hk_cases : k = 1 ∨ k = 2 ∨ k = 3 ∨ k = 4 ∨ k = 5 ∨ k = 6 ∨ k = 7 ∨ k = 8 := by omega

    rcases hk_cases with rfl | rfl | rfl | rfl | rfl | rfl | rfl | rfl
    · obtain ⟨a, rfl⟩ := len_one (HLN.out (by decide))
      have HN := Lib.hid (show addW s h t = setSt s 1 a from by rw [HA.out, addSt_12 s a 1 (by decide) hh])
      obtain ⟨bw, ow, y, rfl, hy, hcw⟩ := HW2.out.at_ (k := 0) (by simp)
      rw [List.getElem?_cons_zero] at hy; injection hy with hy; subst hy
      rw [Nat.add_zero] at hcw
      have hla := HM.out a (by simp)
      go_wp2_with fail
      refine (set1_any s a _ base D HD1.out (HS1.out _ (Below.refl _ _)) (hmm hla) hw1).mono ?_
      rintro e w2 h2
      rw [← HN.out] at h2
      have h3 := h2.from_ HB1.out
      obtain ⟨z, s', rfl, r⟩ := h3
      go_wp2
      go_ret
      exact ⟨z, s', rfl, r⟩
    · obtain ⟨a, rfl⟩ := len_one (HLN.out (by decide))
      have HN := Lib.hid (show addW s h t = setSt s 2 a from by rw [HA.out, addSt_12 s a 2 (by decide) hh])
      obtain ⟨bw, ow, y, rfl, hy, hcw⟩ := HW2.out.at_ (k := 0) (by simp)
      rw [List.getElem?_cons_zero] at hy; injection hy with hy; subst hy
      rw [Nat.add_zero] at hcw
      have hla := HM.out a (by simp)
      go_wp2_with fail
      refine (set2_any s a _ base D HD1.out (HS1.out _ (Below.refl _ _)) (hmm hla) hw1).mono ?_
      rintro e w2 h2
      rw [← HN.out] at h2
      have h3 := h2.from_ HB1.out
      obtain ⟨z, s', rfl, r⟩ := h3
      go_wp2
      go_ret
      exact ⟨z, s', rfl, r⟩
    · obtain ⟨a, rfl⟩ := len_one (HLN.out (by decide))
      have HN := Lib.hid (show addW s h t = jobSt s a from by rw [HA.out, addSt_3 s a hh])
      obtain ⟨bw, ow, y, rfl, hy, hcw⟩ := HW2.out.at_ (k := 0) (by simp)
      rw [List.getElem?_cons_zero] at hy; injection hy with hy; subst hy
      rw [Nat.add_zero] at hcw
      have hla := HM.out a (by simp)
      go_wp2_with fail
      refine (addTask_any s a _ base D HD1.out HS1.out (HT1.out _ (Below.refl _ _)) hla hw1 ht hgb).mono ?_
      rintro e w2 h2
      rw [← HN.out] at h2
      have h3 := h2.from_ HB1.out
      obtain ⟨z, s', rfl, r⟩ := h3
      go_wp2
      go_ret
      exact ⟨z, s', rfl, r⟩
    · obtain ⟨a, b, rfl⟩ := len_two (HLN.out (by decide))
      have HN := Lib.hid (show addW s h t = taskSt s 4 a [b] from by rw [HA.out, addSt_k s a [b] 4 (by decide) hh])
      have hla := HM.out a (by simp)
      have hlb := HM.out b (by simp)
      go_wp2_with fail
      refine (setTask4_any s a b _ base D HD1.out A2 c2 HW2.out HT2.out (hmm hla) (hmm hlb) hw1 ht (HS1.out _ (Below.refl _ _)) hgb).mono ?_
      rintro e w2 h2
      rw [← HN.out] at h2
      have h3 := h2.from_ HB1.out
      obtain ⟨z, s', rfl, r⟩ := h3
      go_wp2
      go_ret
      exact ⟨z, s', rfl, r⟩
    · obtain ⟨a, b, rfl⟩ := len_two (HLN.out (by decide))
      have HN := Lib.hid (show addW s h t = taskSt s 5 a [b] from by rw [HA.out, addSt_k s a [b] 5 (by decide) hh])
      have hla := HM.out a (by simp)
      have hlb := HM.out b (by simp)
      go_wp2_with fail
      refine (setTask5_any s a b _ base D HD1.out A2 c2 HW2.out HT2.out (hmm hla) (hmm hlb) hw1 ht (HS1.out _ (Below.refl _ _)) hgb).mono ?_
      rintro e w2 h2
      rw [← HN.out] at h2
      have h3 := h2.from_ HB1.out
      obtain ⟨z, s', rfl, r⟩ := h3
      go_wp2
      go_ret
      exact ⟨z, s', rfl, r⟩
    · obtain ⟨a, b, rfl⟩ := len_two (HLN.out (by decide))
      have HN := Lib.hid (show addW s h t = taskSt s 6 a [b] from by rw [HA.out, addSt_k s a [b] 6 (by decide) hh])
      have hla := HM.out a (by simp)
      have hlb := HM.out b (by simp)
      go_wp2_with fail
      refine (setTask6_any s a b _ base D HD1.out A2 c2 HW2.out HT2.out (hmm hla) (hmm hlb) hw1 ht (HS1.out _ (Below.refl _ _)) hgb).mono ?_
      rintro e w2 h2
      rw [← HN.out] at h2
      have h3 := h2.from_ HB1.out
      obtain ⟨z, s', rfl, r⟩ := h3
      go_wp2
      go_ret
      exact ⟨z, s', rfl, r⟩
    · obtain ⟨a, rfl⟩ := len_one (HLN.out (by decide))
      have HN := Lib.hid (show addW s h t = taskSt s 7 a [] from by rw [HA.out, addSt_k s a [] 7 (by decide) hh])
      have hla := HM.out a (by simp)
      go_wp2_with fail
      refine (setTask7_any s a _ base D HD1.out A2 c2 HW2.out (hmm hla) hw1 ht).mono ?_
      rintro e w2 h2
      rw [← HN.out] at h2
      have h3 := h2.from_ HB1.out
      obtain ⟨z, s', rfl, r⟩ := h3
      go_wp2
      go_ret
      exact ⟨z, s', rfl, r⟩
    · obtain ⟨q, hq, h0, h1, hxl, hxs⟩ := fam_idx (HFM.out rfl)
      have hxm : x.length ≤ 100000 := by omega
      have HQ := Lib.hid hq
      clear hxl hxs hq
      have HN := Lib.hid (show addW s h t = parSt s x from by rw [HA.out, addSt_8 s x hh])
      go_wp2_with fail
      refine (addLink_any s x _ rfl hxm q HQ.out h0 h1 _ base D HD1.out A2 c2 HW2.out (fun y hy => hmm (HM.out y hy)) hw1 hk).mono ?_
      rintro e w2 h2
      rw [← HN.out] at h2
      have h3 := h2.from_ HB1.out
      obtain ⟨z, s', rfl, r⟩ := h3
      go_wp2
      go_ret
      exact ⟨z, s', rfl, r⟩

end Go.Proofs.YtkcijibkloamkaaGreatDoor

