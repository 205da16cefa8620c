/- Layer 10: Widest. -/
import Derived.Test.YtldmkbmkjdnaaaaFitJ
namespace Go.Proofs.Ytldmkbmkjdnaaaa.Ft
open Go.RowKit Go.Shelf
open Stp
set_option linter.unusedVariables false
set_option maxRecDepth 100000

set_option maxHeartbeats 1600000 in
theorem searchW_any (n g1 g2 g3 : Nat) (p : Nat → Bool) (hn : n ≤ 100000) (w : World) (h : ∀ k, k < n → ∀ W, Below w.heap.size w W → Calls Try.prog 51 #[.int .i64 k, .pointer (some ⟨g1, 0, none⟩), .pointer (some ⟨g2, 0, none⟩), .pointer (some ⟨g3, 0, none⟩)] W fun e w' => e = .returned (.bool (p k)) ∧ Below W.heap.size W w') :
    Calls Try.prog 50 #[.int .i64 n, .func (.func 51) #[] #[.pointer (some ⟨g1, 0, none⟩), .pointer (some ⟨g2, 0, none⟩), .pointer (some ⟨g3, 0, none⟩)]] w fun e w' => ∃ k : Nat, e = .returned (.int .i64 k) ∧ k ≤ n ∧ (k = 0 ∨ p (k - 1) = false) ∧ (k = n ∨ p k = true) ∧ Below w.heap.size w w' := by
  have H := Lib.hid h
  clear h
  go_enter Try.func50, Try.ntmps50
  go_wp2_with fail
  go_loopw [5, 6] (fun vi vj wr => ∃ i j : Nat, i ≤ j ∧ j ≤ n ∧ vi = .int .i64 i ∧ vj = .int .i64 j ∧ Hid (i = 0 ∨ p (i - 1) = false) ∧ Hid (j = n ∨ p j = true) ∧ Hid (Below w.heap.size w wr)) (fun vi vj _ => (intOf vj).toNat - (intOf vi).toNat)
  case atStart => exact ⟨0, n, Nat.zero_le _, Nat.le_refl _, rfl, rfl, Lib.hid (Or.inl rfl), Lib.hid (Or.inl rfl), Lib.hid (Below.refl _ _)⟩
  case round =>
    obtain ⟨i, j, hij, hjn, rfl, rfl, HI, HJ, HX⟩ := hrel
    by_cases hlt : i < j
    · obtain ⟨q, hq⟩ : ∃ q : Nat, q = (i + j) / 2 := ⟨_, rfl⟩
      have hq1 : i ≤ q := by omega
      have hq2 : q < j := by omega
      have w1 : IntKind.i64.wrap ((i : Int) + (j : Int)) = ((i + j : Nat) : Int) := by rw [IntWalk.i64_in _ (by omega)]; omega
      have HQ := Lib.hid hq
      clear hq hq1 hq2
      go_wp2_with fail
      have hq := HQ.out
      have hq1 : i ≤ q := by omega
      have hq2 : q < j := by omega
      have hqz : ((i : Int) + (j : Int)) / 2 = (q : Int) := by omega
      have hc := H.out q (by omega) wr HX.out
      rw [hqz]
      refine hc.mono ?_
      rintro e w1 ⟨rfl, hb1⟩
      have HX1 := Lib.hid (blw HX.out hb1)
      cases hp : p q
      · have HI1 : Hid (q + 1 = 0 ∨ p (q + 1 - 1) = false) := Lib.hid (Or.inr (by rw [Nat.add_sub_cancel]; exact hp))
        clear hc hb1 hp hq hqz
        go_wp2
        go_roundw
        case rel => exact ⟨q + 1, j, by omega, hjn, by go_num, rfl, HI1, HJ, HX1⟩
        case measure => simp [intOf]; omega
      · have HJ1 : Hid (q = n ∨ p q = true) := Lib.hid (Or.inr hp)
        clear hc hb1 hp hq hqz
        go_wp2
        go_roundw
        case rel => exact ⟨i, q, hq1, by omega, rfl, rfl, HI, HJ1, HX1⟩
        case measure => simp [intOf]; omega
    · obtain rfl : i = j := by omega
      go_wp2
      go_ret
      exact ⟨i, rfl, hjn, HI.out, HJ.out, HX.out⟩

def pW (l : List StepD) (a b d : Int) (k : Nat) : Bool := fstE (fitL l ((k : Int) + 1) d a b) != 0
theorem wid1_any (l : List StepD) (a b d : Int) (A : Option Addr) (m c g1 g2 g3 : Nat) (hm : l.length = m) (ha : 0 ≤ a ∧ a ≤ 1099511627775) (hb : 0 ≤ b ∧ b ≤ 1099511627775) (hd : 0 ≤ d ∧ d ≤ 1099511627775) (hl : ∀ s ∈ l, 0 ≤ s.at_ ∧ s.at_ ≤ 1099511627775) (k : Nat) (hk : k ≤ 100000) (w : World) (h : Stp w A c l)
    (h1 : w.cell? ⟨g1, 0, none⟩ = some (.slice A m c)) (h2 : w.cell? ⟨g2, 0, none⟩ = some (.int .i64 a) ∧ w.cell? ⟨g2, 1, none⟩ = some (.int .i64 b)) (h3 : w.cell? ⟨g3, 0, none⟩ = some (.int .i64 d)) :
    Calls Try.prog 51 #[.int .i64 k, .pointer (some ⟨g1, 0, none⟩), .pointer (some ⟨g2, 0, none⟩), .pointer (some ⟨g3, 0, none⟩)] w fun e w' => e = .returned (.bool (pW l a b d k)) ∧ Below w.heap.size w w' := by
  have HF := Lib.hid fun W (hW : Below w.heap.size w W) => first0_any l a b ((k : Int) + 1) d A m c hm ha hb hd hl _ rfl W (h.below hW)
  obtain ⟨v, hv⟩ : ∃ v, fstE (fitL l ((k : Int) + 1) d a b) = v := ⟨_, rfl⟩
  obtain ⟨u, hu⟩ : ∃ v, fstV (fitL l ((k : Int) + 1) d a b) = v := ⟨_, rfl⟩
  rw [hv, hu] at HF
  unfold pW
  rw [hv]
  have w1' : IntKind.i64.wrap ((k : Int) + 1) = (k : Int) + 1 := IntWalk.i64_in _ (by omega)
  obtain ⟨h2a, h2b⟩ := h2
  clear h hm hl hv hu
  go_enter Try.func51, Try.ntmps51
  go_wp2_with fail
  refine (HF.out _ (Below.refl _ _)).mono ?_
  rintro e w1 ⟨rfl, hb1⟩
  go_wp2
  go_ret
  exact ⟨rfl, hb1⟩

/-! the widest -/
structure WidY (l : List StepD) (a b d : Int) (k : Nat) : Prop where
  le : k ≤ 10000
  some : k = 0 ∨ fitL l (k : Int) d a b ≠ []
  none : k = 10000 ∨ fitL l ((k : Int) + 1) d a b = []
theorem three_new (w : World) (A : Option Addr) (m c : Nat) (a b d : Int) (t0 t1 t2 : TypeId) :
    let W := ((w.alloc (.cells #[.slice A m c] t0)).alloc (.cells #[.int .i64 a, .int .i64 b] t1)).alloc (.cells #[.int .i64 d] t2)
    W.cell? ⟨w.heap.size, 0, none⟩ = some (.slice A m c) ∧ (W.cell? ⟨w.heap.size + 1, 0, none⟩ = some (.int .i64 a) ∧ W.cell? ⟨w.heap.size + 1, 1, none⟩ = some (.int .i64 b)) ∧ W.cell? ⟨w.heap.size + 1 + 1, 0, none⟩ = some (.int .i64 d) ∧ Below w.heap.size w W := by
  intro W
  have q0 := cell1 (new1 w (.slice A m c) t0)
  have hb0 := al w (.cells #[.slice A m c] t0)
  have z0 : (w.alloc (.cells #[.slice A m c] t0)).heap.size = w.heap.size + 1 := by simp
  obtain ⟨q1, q2⟩ := new2 (w.alloc (.cells #[.slice A m c] t0)) (.int .i64 a) (.int .i64 b) t1
  have hb1 := al (w.alloc (.cells #[.slice A m c] t0)) (.cells #[.int .i64 a, .int .i64 b] t1)
  have z1 : ((w.alloc (.cells #[.slice A m c] t0)).alloc (.cells #[.int .i64 a, .int .i64 b] t1)).heap.size = w.heap.size + 1 + 1 := by simp
  have q3 := cell1 (new1 ((w.alloc (.cells #[.slice A m c] t0)).alloc (.cells #[.int .i64 a, .int .i64 b] t1)) (.int .i64 d) t2)
  have hb2 := al ((w.alloc (.cells #[.slice A m c] t0)).alloc (.cells #[.int .i64 a, .int .i64 b] t1)) (.cells #[.int .i64 d] t2)
  rw [z0] at q1 q2
  rw [z1] at q3
  exact ⟨kp (blw hb1 hb2) q0, ⟨kp hb2 q1, kp hb2 q2⟩, q3, blw hb0 (blw hb1 hb2)⟩
def RetWi (l : List StepD) (a b d : Int) (w : World) (e : Ending) (w' : World) : Prop := (∃ k : Nat, WidY l a b d k ∧ e = .returned (.tuple #[.int .i64 k, .int .i64 (fstV (fitL l (k : Int) d a b)), .int .i64 (fstE (fitL l (k : Int) d a b))])) ∧ Below w.heap.size w w'
set_option maxHeartbeats 1600000 in
theorem widest_bad (l : List StepD) (a b d x : Int) (hx : (reqE l a b 1 d = 2 ∧ x = 2) ∨ (reqE l a b 1 d = 0 ∧ d = 0 ∧ x = 2) ∨ (reqE l a b 1 d = 0 ∧ d ≠ 0 ∧ b - a < d ∧ x = 70)) (A : Option Addr) (m c : Nat) (hm : l.length = m) (w : World) (h : Stp w A c l) :
    Calls Try.prog 27 #[.slice A m c, .agg #[.int .i64 a, .int .i64 b], .int .i64 d] w fun e w' => e = .returned (.tuple #[.int .i64 0, .int .i64 0, .int .i64 x]) ∧ Below w.heap.size w w' := by
  have HC := Lib.hid fun W (hW : Below w.heap.size w W) => fcheck_any l a b 1 d A m c hm W (h.below hW)
  obtain ⟨q0, ⟨q1, q2⟩, q3, hb0⟩ := three_new w A m c a b d 22 28 3
  rcases hx with ⟨hq, rfl⟩ | ⟨hq, rfl, rfl⟩ | ⟨hq, hd0, hr, rfl⟩
  · rw [hq] at HC
    clear h hm hq
    go_enter Try.func27, Try.ntmps27
    go_wp2_with fail
    refine (HC.out _ hb0).mono ?_
    rintro e w1 ⟨rfl, hb1⟩
    have HB1 := Lib.hid (blw hb0 hb1)
    clear hb1
    go_wp2
    go_ret3
    exact ⟨rfl, HB1.out⟩
  · rw [hq] at HC
    clear h hm hq
    go_enter Try.func27, Try.ntmps27
    go_wp2_with fail
    refine (HC.out _ hb0).mono ?_
    rintro e w1 ⟨rfl, hb1⟩
    have HB1 := Lib.hid (blw hb0 hb1)
    have r3 := kp hb1 q3
    clear hb1
    go_wp2
    go_ret3
    exact ⟨rfl, HB1.out⟩
  · obtain ⟨hp, ha, hb, hn, hd, hl⟩ := req_bds hq
    rw [hq] at HC
    have hw0 : IntKind.i64.wrap (b - a) = b - a := IntWalk.i64_in _ (by omega)
    have hdb : (d == 0) = false := by rw [beq_eq_false_iff_ne]; exact hd0
    clear h hm hq hp hl
    go_enter Try.func27, Try.ntmps27
    go_wp2_with fail
    refine (HC.out _ hb0).mono ?_
    rintro e w1 ⟨rfl, hb1⟩
    have HB1 := Lib.hid (blw hb0 hb1)
    have r3 := kp hb1 q3; have r1 := kp hb1 q1; have r2 := kp hb1 q2
    clear hb1
    go_wp2
    go_ret3
    exact ⟨rfl, HB1.out⟩
set_option maxHeartbeats 1600000 in
theorem widest_any (l : List StepD) (a b d : Int) (hq : reqE l a b 1 d = 0) (hd0 : d ≠ 0) (hr : d ≤ b - a) (A : Option Addr) (m c : Nat) (hm : l.length = m) (w : World) (h : Stp w A c l) :
    Calls Try.prog 27 #[.slice A m c, .agg #[.int .i64 a, .int .i64 b], .int .i64 d] w (RetWi l a b d w) := by
  have HC := Lib.hid fun W (hW : Below w.heap.size w W) => fcheck_any l a b 1 d A m c hm W (h.below hW)
  obtain ⟨q0, ⟨q1, q2⟩, q3, hb0⟩ := three_new w A m c a b d 22 28 3
  obtain ⟨hp, ha, hb, hn, hd, hl⟩ := req_bds hq
  rw [hq] at HC
  have hw0 : IntKind.i64.wrap (b - a) = b - a := IntWalk.i64_in _ (by omega)
  have hdb : (d == 0) = false := by rw [beq_eq_false_iff_ne]; exact hd0
  have HS := Lib.hid fun W (hW : Below w.heap.size w W) (h1 : W.cell? ⟨w.heap.size, 0, none⟩ = some (.slice A m c)) (h2 : W.cell? ⟨w.heap.size + 1, 0, none⟩ = some (.int .i64 a) ∧ W.cell? ⟨w.heap.size + 1, 1, none⟩ = some (.int .i64 b)) (h3 : W.cell? ⟨w.heap.size + 1 + 1, 0, none⟩ = some (.int .i64 d)) =>
    searchW_any 10000 w.heap.size (w.heap.size + 1) (w.heap.size + 1 + 1) (pW l a b d) (by decide) W (fun k hk X hX => wid1_any l a b d A m c w.heap.size (w.heap.size + 1) (w.heap.size + 1 + 1) hm ha hb hd hl k (by omega) X ((h.below hW).below hX) (kp hX h1) ⟨kp hX h2.1, kp hX h2.2⟩ (kp hX h3))
  have HF := Lib.hid fun (k : Nat) W (hW : Below w.heap.size w W) => first0_any l a b (k : Int) d A m c hm ha hb hd hl _ rfl W (h.below hW)
  clear h hm hq hp hl
  unfold RetWi
  go_enter Try.func27, Try.ntmps27
  go_wp2_with fail
  refine (HC.out _ hb0).mono ?_
  rintro e w1 ⟨rfl, hb1⟩
  have HB1 := Lib.hid (blw hb0 hb1)
  have r0 := kp hb1 q0; have r3 := kp hb1 q3; have r1 := kp hb1 q1; have r2 := kp hb1 q2
  clear hb1 q0 q1 q2 q3
  go_wp2_with fail
  refine (HS.out _ HB1.out r0 ⟨r1, r2⟩ r3).mono ?_
  rintro e w2 ⟨k, rfl, hk, hk1, hk2, hb2⟩
  have HB2 := Lib.hid (blw HB1.out hb2)
  have s0 := kp hb2 r0; have s3 := kp hb2 r3; have s1 := kp hb2 r1; have s2 := kp hb2 r2
  have HW : Hid (WidY l a b d k) := Lib.hid ⟨hk, by
    rcases hk1 with e | e
    · exact Or.inl e
    · by_cases h0 : k = 0
      · exact Or.inl h0
      · refine Or.inr (fst_zero.1 ?_)
        unfold pW at e
        have : (((k - 1 : Nat) : Int) + 1) = (k : Int) := by omega
        rw [this] at e
        simpa using e, by
    rcases hk2 with e | e
    · exact Or.inl e
    · refine Or.inr ?_
      unfold pW at e
      have : fstE (fitL l ((k : Int) + 1) d a b) ≠ 0 := by simpa using e
      by_cases hR : fitL l ((k : Int) + 1) d a b = []
      · exact hR
      · exact absurd (fst_zero.2 hR) this⟩
  clear hb2 r0 r1 r2 r3 hk1 hk2
  have hf := HF.out k
  obtain ⟨u, hu⟩ : ∃ u, fstV (fitL l (k : Int) d a b) = u := ⟨_, rfl⟩
  obtain ⟨v, hv⟩ : ∃ u, fstE (fitL l (k : Int) d a b) = u := ⟨_, rfl⟩
  rw [hu, hv] at hf
  have HU := Lib.hid (And.intro hu hv)
  clear hu hv
  go_wp2_with fail
  refine (hf _ HB2.out).mono ?_
  rintro e w3 ⟨rfl, hb3⟩
  have HB3 := Lib.hid (blw HB2.out hb3)
  clear hb3
  go_wp2
  go_ret3
  exact ⟨⟨k, HW.out, by rw [HU.out.1, HU.out.2]; rfl⟩, HB3.out⟩
end Go.Proofs.Ytldmkbmkjdnaaaa.Ft

