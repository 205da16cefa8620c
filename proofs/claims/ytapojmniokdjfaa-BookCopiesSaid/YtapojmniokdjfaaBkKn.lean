/- Layer 11. -/
import Derived.Test.YtapojmniokdjfaaBkA
import Derived.Test.YtapojmniokdjfaaBkFree
import Derived.Test.YtapojmniokdjfaaBkT
import Derived.Test.YtapojmniokdjfaaBkOut
import Derived.Test.YtapojmniokdjfaaStpQ
/- Layer 11: the document's Same of ints, of reservations. -/
namespace Go.Proofs.Ytapojmniokdjfaa.Bk
open Go.RowKit Go.Shelf
open Stp (blw al dr drN kp)
set_option linter.unusedVariables false
set_option maxRecDepth 100000

/-- ints in memory -/
structure Its (w : World) (A : Option Addr) (l : List Int) : Prop where
  cells : ∀ k s, l[k]? = some s → ∃ b off, A = some ⟨b, off, none⟩ ∧ w.cell? ⟨b, off + k, none⟩ = some (.int .i64 s)
theorem Its.below {w w' : World} {A : Option Addr} {l : List Int} (h : Its w A l) (hb : Below w.heap.size w w') : Its w' A l :=
  ⟨fun k s hk => by obtain ⟨b, off, e, hc⟩ := h.cells k s hk; exact ⟨b, off, e, kp hb hc⟩⟩
theorem Its.lt {w : World} {A : Option Addr} {l : List Int} (h : Its w A l) {k : Nat} (hk : k < l.length) : ∃ b off s, A = some ⟨b, off, none⟩ ∧ l[k]? = some s ∧ w.cell? ⟨b, off + k, none⟩ = some (.int .i64 s) := by
  obtain ⟨s, hs⟩ : ∃ s, l[k]? = some s := ⟨_, List.getElem?_eq_getElem hk⟩
  obtain ⟨b, off, e, hc⟩ := h.cells k s hs
  exact ⟨b, off, s, e, hs, hc⟩
theorem Its.nil (w : World) (A : Option Addr) : Its w A [] := ⟨fun k s h => by simp at h⟩
def sameI : List Int → List Int → Bool
  | [], [] => true
  | a :: l, b :: m => decide (a = b) && sameI l m
  | _, _ => false
theorem sameI_iff : ∀ {l m : List Int}, sameI l m = true ↔ l = m
  | [], [] => by simp [sameI]
  | [], b :: m => by simp [sameI]
  | a :: l, [] => by simp [sameI]
  | a :: l, b :: m => by simp only [sameI, Bool.and_eq_true, decide_eq_true_eq, sameI_iff (l := l) (m := m), List.cons.injEq]
theorem sameI_len {l m : List Int} (h : l.length ≠ m.length) : sameI l m = false := by
  cases hs : sameI l m
  · rfl
  · exact absurd (by rw [sameI_iff.1 hs]) h
def sameL : List SlotD → List SlotD → Bool
  | [], [] => true
  | a :: l, b :: m => decide (a.id = b.id) && (decide (a.fm = b.fm) && (decide (a.to = b.to) && (decide (a.nd = b.nd) && sameL l m)))
  | _, _ => false
theorem sameL_iff : ∀ {l m : List SlotD}, sameL l m = true ↔ l = m
  | [], [] => by simp [sameL]
  | [], b :: m => by simp [sameL]
  | a :: l, [] => by simp [sameL]
  | a :: l, b :: m => by
    simp only [sameL, Bool.and_eq_true, decide_eq_true_eq, sameL_iff (l := l) (m := m), List.cons.injEq]
    constructor
    · rintro ⟨h1, h2, h3, h4, h5⟩; exact ⟨slotD_ext h1 h2 h3 h4, h5⟩
    · rintro ⟨rfl, rfl⟩; exact ⟨rfl, rfl, rfl, rfl, rfl⟩
theorem sameL_len {l m : List SlotD} (h : l.length ≠ m.length) : sameL l m = false := by
  cases hs : sameL l m
  · rfl
  · exact absurd (by rw [sameL_iff.1 hs]) h
set_option maxHeartbeats 1600000 in
theorem sameI_any (l m : List Int) (A B : Option Addr) (n k c d : Nat) (hn : l.length = n) (hk : m.length = k) (hnl : n ≤ 1000000) (hkl : k ≤ 1000000) (w : World) (h : Its w A l) (h' : Its w B m) :
    Calls Try.prog 26 #[.slice A n c, .slice B k d] w fun e w' => e = .returned (.bool (sameI l m)) ∧ Below w.heap.size w w' := by
  obtain ⟨r, hr⟩ : ∃ r, sameI l m = r := ⟨_, rfl⟩
  rw [hr]
  have H1 := Lib.hid h; have H2 := Lib.hid h'; have HN := Lib.hid hn; have HK := Lib.hid hk; have HR := Lib.hid hr
  by_cases hnk : n = k
  case neg =>
    obtain rfl : r = false := by rw [← hr]; exact sameI_len (by rw [hn, hk]; exact hnk)
    have hnb : ((n : Int) != (k : Int)) = true := by rw [bne_iff_ne]; omega
    clear h h' hn hk hr hnk
    go_enter Try.func26, Try.ntmps26
    go_wp2
    go_ret
    exact ⟨rfl, Below.refl _ _⟩
  subst hnk
  have hnb : ((n : Int) != (n : Int)) = false := by simp
  clear h h' hn hk hr
  go_enter Try.func26, Try.ntmps26
  go_wp2
  go_loopw [5] (fun i wr => ∃ k : Nat, k ≤ n ∧ i = .int .i64 k ∧ Hid (sameI (l.drop k) (m.drop k) = r) ∧ Hid (Below w.heap.size w wr)) (fun i _ => n - (intOf i).toNat)
  case atStart => exact ⟨0, Nat.zero_le _, rfl, HR, Lib.hid (Below.refl _ _)⟩
  case round =>
    obtain ⟨k, hk, rfl, HS, HB⟩ := hrel
    by_cases hlt : k < n
    · obtain ⟨b1, o1, s, e1, hs, c1⟩ := (H1.out.below HB.out).lt (k := k) (by rw [HN.out]; exact hlt)
      obtain ⟨b2, o2, u, e2, hu, c3⟩ := (H2.out.below HB.out).lt (k := k) (by rw [HK.out]; exact hlt)
      subst e1 e2
      have hd1 : l.drop k = s :: l.drop (k + 1) := by
        rw [List.drop_eq_getElem_cons (by rw [HN.out]; exact hlt), (List.getElem?_eq_some_iff.1 hs).2]
      have hd2 : m.drop k = u :: m.drop (k + 1) := by
        rw [List.drop_eq_getElem_cons (by rw [HK.out]; exact hlt), (List.getElem?_eq_some_iff.1 hu).2]
      have hS := HS.out
      rw [hd1, hd2] at hS
      unfold sameI at hS
      by_cases h1 : s = u
      · have hsu : s = u := h1
        subst hsu
        rw [decide_eq_true h1, Bool.true_and] at hS
        have HS2 := Lib.hid hS
        clear hS hd1 hd2 hs hu HS h1
        go_wp2_with fail
        go_quiet (fail)
        go_wp2
        go_roundw
        case rel => exact ⟨k + 1, by omega, by go_num, HS2, Lib.hid (blw HB.out (drN _ _))⟩
        case measure => simp [intOf]; omega
      · rw [decide_eq_false h1] at hS
        simp only [Bool.false_and] at hS
        subst hS
        have hb : (s == u) = false := by rw [beq_eq_false_iff_ne]; exact h1
        clear hd1 hd2 hs hu HS HR h1
        go_wp2_with fail
        go_quiet (fail)
        go_wp2
        try simp only [Exit.noGoto]
        go_ret
        exact ⟨rfl, blw HB.out (drN _ _)⟩
    · obtain rfl : k = n := by omega
      have hS := HS.out
      rw [List.drop_eq_nil_of_le (by rw [HN.out]; exact Nat.le_refl _), List.drop_eq_nil_of_le (by rw [HK.out]; exact Nat.le_refl _)] at hS
      obtain rfl : r = true := by rw [← hS]; rfl
      clear hS
      go_wp2
      try simp only [Exit.noGoto]
      go_ret
      exact ⟨rfl, HB.out⟩
set_option maxHeartbeats 1600000 in
theorem sameL_any (l m : List SlotD) (A B : Option Addr) (n k c d : Nat) (hn : l.length = n) (hk : m.length = k) (w : World) (h : Slt w A c l) (h' : Slt w B d m) :
    Calls Try.prog 18 #[.slice A n c, .slice B k d] w fun e w' => e = .returned (.bool (sameL l m)) ∧ Below w.heap.size w w' := by
  have hnl : n ≤ 9223372036854775807 := by rw [← hn]; exact h.lenI
  have hkl : k ≤ 9223372036854775807 := by rw [← hk]; exact h'.lenI
  obtain ⟨r, hr⟩ : ∃ r, sameL l m = r := ⟨_, rfl⟩
  rw [hr]
  have H1 := Lib.hid h; have H2 := Lib.hid h'; have HN := Lib.hid hn; have HK := Lib.hid hk; have HR := Lib.hid hr
  by_cases hnk : n = k
  case neg =>
    obtain rfl : r = false := by rw [← hr]; exact sameL_len (by rw [hn, hk]; exact hnk)
    have hnb : ((n : Int) != (k : Int)) = true := by rw [bne_iff_ne]; omega
    clear h h' hn hk hr hnk
    go_enter Try.func18, Try.ntmps18
    go_wp2
    go_ret
    exact ⟨rfl, Below.refl _ _⟩
  subst hnk
  have hnb : ((n : Int) != (n : Int)) = false := by simp
  clear h h' hn hk hr
  go_enter Try.func18, Try.ntmps18
  go_wp2
  go_loopw [5] (fun i wr => ∃ k : Nat, k ≤ n ∧ i = .int .i64 k ∧ Hid (sameL (l.drop k) (m.drop k) = r) ∧ Hid (Below w.heap.size w wr)) (fun i _ => n - (intOf i).toNat)
  case atStart => exact ⟨0, Nat.zero_le _, rfl, HR, Lib.hid (Below.refl _ _)⟩
  case round =>
    obtain ⟨k, hk, rfl, HS, HB⟩ := hrel
    by_cases hlt : k < n
    · obtain ⟨b1, o1, s, e1, hs, c1, c2, c3, c4⟩ := (H1.out.below HB.out).lt (k := k) (by rw [HN.out]; exact hlt)
      obtain ⟨b2, o2, u, e2, hu, c5, c6, c7, c8⟩ := (H2.out.below HB.out).lt (k := k) (by rw [HK.out]; exact hlt)
      subst e1 e2
      have hd1 : l.drop k = s :: l.drop (k + 1) := by
        rw [List.drop_eq_getElem_cons (by rw [HN.out]; exact hlt), (List.getElem?_eq_some_iff.1 hs).2]
      have hd2 : m.drop k = u :: m.drop (k + 1) := by
        rw [List.drop_eq_getElem_cons (by rw [HK.out]; exact hlt), (List.getElem?_eq_some_iff.1 hu).2]
      have hS := HS.out
      rw [hd1, hd2] at hS
      unfold sameL at hS
      by_cases h1 : s.id = u.id
      · by_cases h2 : s.fm = u.fm
        · by_cases h3 : s.to = u.to
          · by_cases h4 : s.nd = u.nd
            · have hsu : s = u := slotD_ext h1 h2 h3 h4
              subst hsu
              rw [decide_eq_true h1, decide_eq_true h2, decide_eq_true h3, decide_eq_true h4, Bool.true_and, Bool.true_and, Bool.true_and, Bool.true_and] at hS
              have HS2 := Lib.hid hS
              clear hS hd1 hd2 hs hu HS h1 h2 h3 h4
              go_wp2_with fail
              go_quiet (fail)
              go_wp2
              go_roundw
              case rel => exact ⟨k + 1, by omega, by go_num, HS2, Lib.hid (blw HB.out (drN _ _))⟩
              case measure => simp [intOf]; omega
            · rw [decide_eq_false h4] at hS
              simp only [Bool.false_and, Bool.and_false] at hS
              subst hS
              have hb : (s.nd == u.nd) = false := by rw [beq_eq_false_iff_ne]; exact h4
              have hb1 : (s.id == u.id) = true := by rw [beq_iff_eq]; exact h1
              have hb2 : (s.fm == u.fm) = true := by rw [beq_iff_eq]; exact h2
              have hb3 : (s.to == u.to) = true := by rw [beq_iff_eq]; exact h3
              clear hd1 hd2 hs hu HS HR h1 h2 h3 h4
              go_wp2_with fail
              go_quiet (fail)
              go_wp2
              try simp only [Exit.noGoto]
              go_ret
              exact ⟨rfl, blw HB.out (drN _ _)⟩
          · rw [decide_eq_false h3] at hS
            simp only [Bool.false_and, Bool.and_false] at hS
            subst hS
            have hb : (s.to == u.to) = false := by rw [beq_eq_false_iff_ne]; exact h3
            have hb1 : (s.id == u.id) = true := by rw [beq_iff_eq]; exact h1
            have hb2 : (s.fm == u.fm) = true := by rw [beq_iff_eq]; exact h2
            clear hd1 hd2 hs hu HS HR h1 h2 h3
            go_wp2_with fail
            go_quiet (fail)
            go_wp2
            try simp only [Exit.noGoto]
            go_ret
            exact ⟨rfl, blw HB.out (drN _ _)⟩
        · rw [decide_eq_false h2] at hS
          simp only [Bool.false_and, Bool.and_false] at hS
          subst hS
          have hb : (s.fm == u.fm) = false := by rw [beq_eq_false_iff_ne]; exact h2
          have hb1 : (s.id == u.id) = true := by rw [beq_iff_eq]; exact h1
          clear hd1 hd2 hs hu HS HR h1 h2
          go_wp2_with fail
          go_quiet (fail)
          go_wp2
          try simp only [Exit.noGoto]
          go_ret
          exact ⟨rfl, blw HB.out (drN _ _)⟩
      · rw [decide_eq_false h1] at hS
        simp only [Bool.false_and] at hS
        subst hS
        have hb : (s.id == u.id) = false := by rw [beq_eq_false_iff_ne]; exact h1
        clear hd1 hd2 hs hu HS HR h1
        go_wp2_with fail
        go_quiet (fail)
        go_wp2
        try simp only [Exit.noGoto]
        go_ret
        exact ⟨rfl, blw HB.out (drN _ _)⟩
    · obtain rfl : k = n := by omega
      have hS := HS.out
      rw [List.drop_eq_nil_of_le (by rw [HN.out]; exact Nat.le_refl _), List.drop_eq_nil_of_le (by rw [HK.out]; exact Nat.le_refl _)] at hS
      obtain rfl : r = true := by rw [← hS]; rfl
      clear hS
      go_wp2
      try simp only [Exit.noGoto]
      go_ret
      exact ⟨rfl, HB.out⟩
end Go.Proofs.Ytapojmniokdjfaa.Bk
/- Layer 11: Get, Steps; books that are none. -/
namespace Go.Proofs.Ytapojmniokdjfaa.Bk
open Go.RowKit Go.Shelf
open Stp (inW blw al dr drN kp Stp OwnS RetP clone_any)
set_option linter.unusedVariables false
set_option maxRecDepth 100000

theorem steps_any (w : World) (g m : Nat) (N : Int) (F : List StepD) (L : List SlotD) (hF : Prof F) (hn : F.length ≤ 1000) (h : BookM w g m N F L) :
    Calls Try.prog 14 #[.pointer (some ⟨g, 0, none⟩)] w (RetP w.heap.size F w) := by
  obtain ⟨A, c, hs, c0, c1, c2, cf⟩ := h.cells
  obtain ⟨s0, r0, e0, _⟩ := hF.zero
  obtain ⟨b, off, s, eA, _, _, _⟩ := hs.lt (k := 0) (by rw [e0]; simp)
  subst eA
  have HC := Lib.hid (clone_any F b off F.length c rfl hn w hs)
  clear hs c0 c1 e0
  go_enter Try.func14, Try.ntmps14
  go_wp2_with fail
  refine HC.out.mono ?_
  rintro e w1 ⟨A1, c1', rfl, ho1, hb1⟩
  have HO := Lib.hid ho1; have HB := Lib.hid hb1
  clear ho1 hb1
  go_wp2
  go_ret
  exact ⟨_, _, rfl, HO.out, HB.out⟩
theorem take_nil (v : Value) (w : World) (s : SlotD) :
    Calls Try.prog 16 #[.pointer none, .agg #[.int .i64 s.id, .int .i64 s.fm, .int .i64 s.to, .int .i64 s.nd]] w fun e w' => e = .returned (.int .i64 1) ∧ Below w.heap.size w w' := by
  have HX := Lib.hid (al w (.cells #[.int .i64 s.id, .int .i64 s.fm, .int .i64 s.to, .int .i64 s.nd] 32))
  go_enter Try.func16, Try.ntmps16
  go_wp2
  go_ret
  exact ⟨rfl, HX.out⟩
theorem free_nil (w : World) :
    Calls Try.prog 22 #[.pointer none, .slice none 0 0] w fun e w' => e = .returned (.int .i64 1) ∧ Below w.heap.size w w' := by
  go_enter Try.func22, Try.ntmps22
  go_wp2
  go_ret
  exact ⟨rfl, Below.refl _ _⟩
end Go.Proofs.Ytapojmniokdjfaa.Bk
/- Layer 11: what the chapter's example fixes. -/
namespace Go.Proofs.Ytapojmniokdjfaa.Bk
open Go.RowKit Go.Shelf
open Stp (inW blw al dr drN kp Stp OwnS RetP addE addL)
open Srt (top_ex)
set_option linter.unusedVariables false
set_option maxRecDepth 100000

def kS1 : SlotD := ⟨1, 0, 10, 3⟩
def kS2 : SlotD := ⟨2, 5, 9, 2⟩
def kF : List StepD := [⟨0, 1⟩, ⟨10, 4⟩]
theorem kn1 : takeE 4 [⟨0, 4⟩] [] kS1 = 0 := by kernel_rfl
theorem kn2 : takeF 4 [⟨0, 4⟩] [] kS1 = kF := by kernel_rfl
theorem kn3 : takeL 4 [⟨0, 4⟩] [] kS1 = [kS1] := by kernel_rfl
theorem kn4 : takeE 4 kF [kS1] kS2 = 70 := by kernel_rfl
theorem kn5 : takeF 4 kF [kS1] kS2 = kF := by kernel_rfl
theorem kn6 : takeL 4 kF [kS1] kS2 = [kS1] := by kernel_rfl
theorem kn7 : outB 4 3 4 2 = true := by kernel_rfl
theorem kn8 : addL [⟨0, 4⟩] 0 10 (-3) = kF := by kernel_rfl
theorem knI : BkI 4 kF [kS1] [0, 10] 1 := by
  have h := (BkI.new (N := 4) (by decide)).take (by decide) (takeE_iff.1 kn1)
  have e : addL [⟨0, 4⟩] kS1.fm kS1.to (-kS1.nd) = kF := kn8
  rw [e] at h
  exact h
theorem kn_out {F' : List StepD} {L' : List SlotD} {ids : List Int} (h : OutP 4 kF [kS1] 3 4 2 F' L' ids) : ids = [1] := by
  obtain ⟨X0, hr, hat, hv, rfl⟩ := h.exact_
  have hv3 : valF 0 X0 3 = -1 := by rw [hv 3 (by decide)]; decide
  have hh : hitS X0 kS1 = true := by
    rcases top_ex X0 3 with q | ⟨u, hu, hut, htop⟩
    · rw [val_no q] at hv3; exact absurd hv3 (by decide)
    · rw [val_is hr hu hut htop] at hv3
      unfold hitS
      rw [List.any_eq_true]
      refine ⟨u, hu, ?_⟩
      have := rise_gt hr u hu
      simp only [Bool.and_eq_true, decide_eq_true_eq]
      refine ⟨⟨?_, ?_⟩, by omega⟩
      · show 0 ≤ u.at_; omega
      · show u.at_ < 10; omega
  show (relG X0 [kS1]).reverse = [1]
  unfold relG
  rw [if_pos hh]
  rfl
theorem wf1 : (Lit.int .i64 1).wf = true := by decide
theorem wf2 : (Lit.int .i64 2).wf = true := by decide
theorem its_own {w : World} {base : Nat} {A : Option Addr} {n c : Nat} {l : List Int} (h : OwnI w base (.slice A n c) l) : n = l.length ∧ Its w A l := by
  rcases h.at_ with ⟨e, hl⟩ | ⟨q, cap, e, _, _, hc⟩
  · injection e with e1 e2 e3
    subst hl
    exact ⟨e2, Its.nil _ _⟩
  · injection e with e1 e2 e3
    refine ⟨e2, ⟨fun k s hk => ⟨q, 0, e1, ?_⟩⟩⟩
    rw [Nat.zero_add]; exact hc k s hk
theorem its_one (w : World) (x : Int) (t : TypeId) : Its (w.alloc (.cells #[.int .i64 x] t)) (some ⟨w.heap.size, 0, none⟩) [x] := by
  refine ⟨fun k s hk => ⟨w.heap.size, 0, rfl, ?_⟩⟩
  rw [Dag.blk_cell (heap_alloc_new w (.cells #[.int .i64 x] t))]
  match k, hk with
  | 0, hk => injection hk with hk; subst hk; rfl
  | k + 1, hk => simp at hk
theorem newb_yes (n : Int) (h : 1 ≤ n ∧ n ≤ 10000) (w : World) : Calls Try.prog 10 #[.int .i64 n] w fun e w' => ∃ g m, e = .returned (.tuple #[.pointer (some ⟨g, 0, none⟩), .int .i64 0]) ∧ BookM w' g m n [⟨0, n⟩] [] ∧ w.heap.size ≤ g ∧ w.heap.size ≤ m ∧ Below w.heap.size w w' :=
  (newb_any n w).mono fun e w' H => by unfold RetN at H; rwa [if_pos h] at H
theorem newb_no (n : Int) (h : ¬ (1 ≤ n ∧ n ≤ 10000)) (w : World) : Calls Try.prog 10 #[.int .i64 n] w fun e w' => e = .returned (.tuple #[.pointer none, .int .i64 2]) ∧ Below w.heap.size w w' :=
  (newb_any n w).mono fun e w' H => by unfold RetN at H; rwa [if_neg h] at H
theorem out_yes (a b k : Int) (w : World) (g m : Nat) (N : Int) (F : List StepD) (L : List SlotD) (T : List Int) (kk : Nat) (hI : BkI N F L T kk) (hkk : kk ≤ 100) (hwf : ∀ s ∈ L, (Lit.int .i64 s.id).wf = true) (h : BookM w g m N F L) (ho : outB N a b k = true) :
    Calls Try.prog 24 #[.pointer (some ⟨g, 0, none⟩), .int .i64 a, .int .i64 b, .int .i64 k] w fun e w' => ∃ A c F' L' ids, e = .returned (.tuple #[.slice A ids.length c, .int .i64 0]) ∧ OwnI w' w.heap.size (.slice A ids.length c) ids ∧ OutP N F L a b k F' L' ids ∧ BookM w' g m N F' L' ∧ Wr (GB g m) w w' :=
  (out_any a b k w g m N F L T kk hI hkk hwf h).mono fun e w' H => by unfold RetO at H; rwa [if_pos ho] at H
theorem out_no (a b k : Int) (w : World) (g m : Nat) (N : Int) (F : List StepD) (L : List SlotD) (T : List Int) (kk : Nat) (hI : BkI N F L T kk) (hkk : kk ≤ 100) (hwf : ∀ s ∈ L, (Lit.int .i64 s.id).wf = true) (h : BookM w g m N F L) (ho : outB N a b k = false) :
    Calls Try.prog 24 #[.pointer (some ⟨g, 0, none⟩), .int .i64 a, .int .i64 b, .int .i64 k] w fun e w' => e = .returned (.tuple #[.slice none 0 0, .int .i64 2]) ∧ BookM w' g m N F L ∧ Wr (GB g m) w w' :=
  (out_any a b k w g m N F L T kk hI hkk hwf h).mono fun e w' H => by unfold RetO at H; rwa [if_neg (by rw [ho]; decide)] at H
set_option maxHeartbeats 3200000 in
theorem known_any (w : World) : Calls Try.prog 9 #[] w fun e w' => e = .returned (.bool true) ∧ Below w.heap.size w w' := by
  have HN := Lib.hid fun (W : World) => newb_yes 4 (by decide) W
  have HT1 := Lib.hid fun (g m : Nat) (W : World) (hb : BookM W g m 4 [⟨0, 4⟩] []) => take_any kS1 wf1 W g m 4 [⟨0, 4⟩] [] [] 0 (BkI.new (by decide)) (by decide) hb
  unfold RetT at HT1
  rw [kn1, kn2, kn3] at HT1
  have HT2 := Lib.hid fun (g m : Nat) (W : World) (hb : BookM W g m 4 kF [kS1]) => take_any kS2 wf2 W g m 4 kF [kS1] [0, 10] 1 knI (by decide) hb
  unfold RetT at HT2
  rw [kn4, kn5, kn6] at HT2
  have HO := Lib.hid fun (g m : Nat) (W : World) (hb : BookM W g m 4 kF [kS1]) => out_yes 3 4 2 W g m 4 kF [kS1] [0, 10] 1 knI (by decide) (fun s hs => by simp at hs; subst hs; exact wf1) hb kn7
  have HSI := Lib.hid fun (A B : Option Addr) (c d : Nat) (W : World) (h : Its W A [1]) (h' : Its W B [1]) => sameI_any [1] [1] A B 1 1 c d rfl rfl (by decide) (by decide) W h h'
  rw [show sameI [1] [1] = true from rfl] at HSI
  have HFN := Lib.hid fun (W : World) => free_nil W
  unfold kS1 at HT1
  unfold kS2 at HT2
  go_enter Try.func9, Try.ntmps9
  go_wp2_with fail
  refine (HN.out _).mono ?_
  rintro e w1 ⟨g, m, rfl, hB1, hg, hm, hb1⟩
  have HB1 := Lib.hid hb1; have HM1 := Lib.hid hB1
  clear hb1 hB1
  go_wp2_with fail
  refine (HT1.out g m _ HM1.out).mono ?_
  rintro e w2 ⟨rfl, hB2, hw2⟩
  have HM2 := Lib.hid hB2; have HW2 := Lib.hid hw2
  clear hB2 hw2
  go_wp2_with fail
  refine (HT2.out g m _ HM2.out).mono ?_
  rintro e w3 ⟨rfl, hB3, hw3⟩
  have HM3 := Lib.hid hB3; have HW3 := Lib.hid (HW2.out.trans hw3)
  clear hB3 hw3
  go_wp2_with fail
  refine (HO.out g m _ HM3.out).mono ?_
  rintro e w4 ⟨A4, c4, F', L', ids, rfl, hI4, hP, hB4, hw4⟩
  obtain rfl := kn_out hP
  obtain ⟨_, hi4⟩ := its_own hI4
  have HI4 := Lib.hid hi4; have HW4 := Lib.hid (HW3.out.trans hw4)
  clear hI4 hP hB4 hw4 hi4
  go_wp2_with fail
  have HA := Lib.hid (al w4 (.cells #[.int .i64 1] 3))
  refine (HSI.out _ _ _ _ _ (HI4.out.below HA.out) (its_one w4 1 _)).mono ?_
  rintro e w5 ⟨rfl, hb5⟩
  have HB5 := Lib.hid (blw HA.out hb5)
  clear hb5
  go_wp2_with fail
  refine (HFN.out _).mono ?_
  rintro e w6 ⟨rfl, hb6⟩
  have HB6 := Lib.hid (blw HB5.out hb6)
  clear hb6
  go_wp2
  go_ret
  have hW := HW4.out.trans (Wr.of_below (S := GB g m) HB6.out)
  exact ⟨rfl, HB1.out.trans (hW.below HB1.out.size (by rintro b (rfl | rfl) <;> assumption))⟩
end Go.Proofs.Ytapojmniokdjfaa.Bk
/- Layer 11 in plain words: a book of which all is reserved. -/
namespace Go.Proofs.Ytapojmniokdjfaa.Bk
open Go.RowKit Go.Shelf
open Stp (inW addE addL addE_iff add_yes ext_is prof_uniq okS addR)
set_option linter.unusedVariables false
theorem u8b {m : Int} (h : (Lit.int .u8 m).wf = true) : 0 ≤ m ∧ m < 256 := by
  have := h
  simp [Lit.wf] at this
  rw [show IntKind.u8.min = 0 from rfl, show IntKind.u8.max = 255 from rfl] at this
  omega
theorem u16b {m : Int} (h : (Lit.int .u16 m).wf = true) : 0 ≤ m ∧ m < 65536 := by
  have := h
  simp [Lit.wf] at this
  rw [show IntKind.u16.min = 0 from rfl, show IntKind.u16.max = 65535 from rfl] at this
  omega
theorem one_profB {n : Int} (h : 0 ≤ n ∧ n ≤ 10000) : Prof [⟨0, n⟩] := by
  refine ⟨by simp, ⟨_, [], rfl, rfl⟩, ⟨by show (-1 : Int) < 0; decide, ?_, trivial⟩, fun s hs => ?_⟩
  · show n ≠ DD; unfold DD; omega
  · simp at hs; subst hs; exact ⟨⟨Int.le_refl _, by show (0 : Int) ≤ 1099511627775; decide⟩, h⟩
theorem one_valB {n t : Int} (ht : 0 ≤ t) : valF 0 [⟨0, n⟩] t = n := by rw [val_cons (by exact ht)]; rfl
theorem addE_70 {l : List StepD} {a b k : Int} (hp : Prof l) (ha : 0 ≤ a ∧ a ≤ 1099511627775) (hb : 0 ≤ b ∧ b ≤ 1099511627775) (hab : a ≤ b) (hk : -10000 ≤ k ∧ k ≤ 10000) (hn : ¬ ∀ t, 0 ≤ t → 0 ≤ valF 0 l t + inW a b k t ∧ valF 0 l t + inW a b k t ≤ 10000) : addE l a b k = 70 := by
  have hd : durE l a b = 0 := by unfold durE; rw [if_pos ⟨chkD_prof.2 hp, Clk.isT_yes ha.1 ha.2, Clk.isT_yes hb.1 hb.2, hab⟩]
  have h0 : addE l a b k ≠ 0 := fun e => hn (addE_iff.1 e).ok
  unfold addE at h0 ⊢
  rw [if_pos ⟨hd, hk⟩] at h0 ⊢
  by_cases c : okS (addR l a b k) = true
  · rw [if_pos c] at h0; exact absurd rfl h0
  · rw [if_neg c]
structure NewR (n a c : Int) (F1 : List StepD) : Prop where
  e1 : takeE n [⟨0, n⟩] [] ⟨1, a, c, n⟩ = 0
  f1 : takeF n [⟨0, n⟩] [] ⟨1, a, c, n⟩ = F1
  l1 : takeL n [⟨0, n⟩] [] ⟨1, a, c, n⟩ = [⟨1, a, c, n⟩]
  inv : BkI n F1 [⟨1, a, c, n⟩] [a, c] 1
  val : ∀ t, 0 ≤ t → valF 0 F1 t = n + inW a c (-n) t
  min : minV F1 a c = 0
  min0 : endE F1 a c = 0
  e2 : takeE n F1 [⟨1, a, c, n⟩] ⟨2, a, a + 1, 1⟩ = 70
  f2 : takeF n F1 [⟨1, a, c, n⟩] ⟨2, a, a + 1, 1⟩ = F1
  l2 : takeL n F1 [⟨1, a, c, n⟩] ⟨2, a, a + 1, 1⟩ = [⟨1, a, c, n⟩]
theorem new_res {n a c : Int} (hn : 1 ≤ n ∧ n ≤ 10000) (ha : 0 ≤ a) (hac : a < c) (hc : c ≤ 100000) : ∃ F1, NewR n a c F1 := by
  have hy : TakeY n [⟨0, n⟩] [] ⟨1, a, c, n⟩ := by
    refine ⟨⟨by show (1 : Int) ≤ 1; decide, ⟨ha, by show a ≤ _; omega⟩, ⟨by show 0 ≤ c; omega, by show c ≤ _; omega⟩, hac, ⟨hn.1, Int.le_refl _⟩⟩, rfl, addE_iff.2 ⟨one_profB (by omega), ⟨ha, by show a ≤ _; omega⟩, ⟨by show 0 ≤ c; omega, by show c ≤ _; omega⟩, by show a ≤ c; omega, by show -10000 ≤ -n ∧ -n ≤ 10000; omega, fun t ht => ?_⟩⟩
    rw [one_valB ht]
    show 0 ≤ n + inW a c (-n) t ∧ n + inW a c (-n) t ≤ 10000
    unfold inW; split <;> omega
  have e1 := takeE_iff.2 hy
  have hI := (BkI.new hn).take (by decide) hy
  have hv := add_yes hy.add (by simp)
  have hF : takeF n [⟨0, n⟩] [] ⟨1, a, c, n⟩ = addL [⟨0, n⟩] a c (-n) := by unfold takeF; rw [if_pos e1]
  have hval : ∀ t, 0 ≤ t → valF 0 (addL [⟨0, n⟩] a c (-n)) t = n + inW a c (-n) t := fun t ht => by
    have := hv.val t ht
    rw [one_valB ht] at this
    exact this
  have he : endE (addL [⟨0, n⟩] a c (-n)) a c = 0 := by
    unfold endE durE
    rw [if_pos ⟨if_pos ⟨chkD_prof.2 hI.prof, Clk.isT_yes ha (by omega), Clk.isT_yes (by omega) (by omega), by omega⟩, hac⟩]
  have hmin := (ext_is he).1
  obtain ⟨⟨_, t, h1, h2, h3⟩, _⟩ := ext_is he
  have hz : takeE n (addL [⟨0, n⟩] a c (-n)) [⟨1, a, c, n⟩] ⟨2, a, a + 1, 1⟩ = 70 := by
    have hok : slotB n ⟨2, a, a + 1, 1⟩ = true := slotB_iff.2 ⟨by show (1 : Int) ≤ 2; decide, ⟨ha, by show a ≤ _; omega⟩, ⟨by show 0 ≤ a + 1; omega, by show a + 1 ≤ _; omega⟩, by show a < a + 1; omega, ⟨by show (1 : Int) ≤ 1; decide, hn.1⟩⟩
    have hne : addE (addL [⟨0, n⟩] a c (-n)) a (a + 1) (-1) = 70 := by
      refine addE_70 hI.prof ⟨ha, by omega⟩ ⟨by omega, by omega⟩ (by omega) (by omega) fun h => ?_
      have := (h a ha).1
      rw [hval a ha] at this
      unfold inW at this
      rw [if_pos (by omega), if_pos (by omega)] at this
      omega
    unfold takeE
    rw [if_pos hok, if_neg (by simp [fndS]), hne]
  refine ⟨_, e1, hF, ?_, hI, hval, ?_, he, hz, ?_, ?_⟩
  · unfold takeL; rw [if_pos e1]; rfl
  · rw [hval t (by omega)] at h3
    unfold inW at h3
    rw [if_pos (by omega)] at h3
    omega
  · unfold takeF; rw [if_neg (by rw [hz]; decide)]
  · unfold takeL; rw [if_neg (by rw [hz]; decide)]
theorem new_free {n a c : Int} {F1 F' : List StepD} {M : List SlotD} {e0 : Int} (hn : 1 ≤ n ∧ n ≤ 10000) (ha : 0 ≤ a) (h : NewR n a c F1) (hf : FreeO F1 [⟨1, a, c, n⟩] [1] e0 F' M) : e0 = 0 ∧ F' = [⟨0, n⟩] ∧ M = [] := by
  have hr : freeR [1] [(⟨1, a, c, n⟩ : SlotD)] = some [] := rfl
  rcases hf with ⟨h1, _⟩ | ⟨G, h1, h2, h3, h4, h5⟩
  · rw [hr] at h1; cases h1
  · rw [hr] at h1
    injection h1 with h1
    subst h1
    refine ⟨h2, ?_, rfl⟩
    refine prof_uniq h4 (one_profB (by omega)) fun t ht => ?_
    have := h3.tak t
    simp only [takV] at this
    rw [h5 t ht, h.val t ht, one_valB ht]
    unfold inW at this ⊢
    by_cases q : a ≤ t ∧ t < c
    · rw [if_pos q] at this ⊢; omega
    · rw [if_neg q] at this ⊢; omega
end Go.Proofs.Ytapojmniokdjfaa.Bk

