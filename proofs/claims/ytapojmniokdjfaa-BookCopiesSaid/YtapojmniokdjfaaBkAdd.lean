/- Layer 9, once more: what Add makes is new. -/
import Derived.Test.YtapojmniokdjfaaStpJ
namespace Go.Proofs.Ytapojmniokdjfaa.Stp
open Go.RowKit Go.Shelf
set_option linter.unusedVariables false
set_option maxRecDepth 100000
def RetSO (l : List StepD) (e0 : Int) (w : World) (e : Ending) (w' : World) : Prop := ∃ A c, e = .returned (.tuple #[.slice A l.length c, .int .i64 e0]) ∧ Stp w' A c l ∧ Below w.heap.size w w' ∧ ∀ q off, A = some ⟨q, off, none⟩ → w.heap.size ≤ q
theorem retSO_err {l : List StepD} {x : Int} {w w' : World} (hl : l = []) (hb : Below w.heap.size w w') : RetSO l x w (.returned (.tuple #[.slice none 0 0, .int .i64 x])) w' := by
  subst hl; exact ⟨none, 0, rfl, Stp.empty _, hb, fun q off e => by cases e⟩
set_option maxHeartbeats 1600000 in
theorem addO_any (l : List StepD) (a b k : Int) (A : Option Addr) (n c : Nat) (hn : l.length = n) (hb : n ≤ 1000) (w : World) (h : Stp w A c l) :
    Calls Try.prog 36 #[.slice A n c, .int .i64 a, .int .i64 b, .int .i64 k] w (RetSO (addL l a b k) (addE l a b k) w) := by
  have HD := Lib.hid fun W (hW : Below w.heap.size w W) => during_any l a b A n c hn W (h.below hW)
  obtain ⟨e0, he0⟩ : ∃ e0, addE l a b k = e0 := ⟨_, rfl⟩
  obtain ⟨R, hR⟩ : ∃ R, addL l a b k = R := ⟨_, rfl⟩
  rw [he0, hR]
  unfold addL at hR
  rw [he0] at hR
  unfold addE at he0
  obtain ⟨r, hr⟩ : ∃ r, durE l a b = r := ⟨_, rfl⟩
  unfold RetS at HD
  rw [hr] at HD he0
  by_cases h2 : r = 2
  · subst h2
    rw [if_neg (by omega)] at he0
    subst he0
    rw [if_neg (by omega)] at hR
    subst hR
    clear h hr hn
    go_enter Try.func36, Try.ntmps36
    go_wp2_with fail
    refine (HD.out _ (Below.refl _ _)).mono ?_
    rintro e w1 ⟨A1, c1, rfl, hs1, hb1⟩
    go_wp2
    go_ret2
    exact retSO_err rfl hb1
  obtain rfl : r = 0 := by rcases dur_or l a b with q | q <;> omega
  by_cases hk1 : k < -10000
  · rw [if_neg (by omega)] at he0
    subst he0
    rw [if_neg (by omega)] at hR
    subst hR
    clear h hr hn
    go_enter Try.func36, Try.ntmps36
    go_wp2_with fail
    refine (HD.out _ (Below.refl _ _)).mono ?_
    rintro e w1 ⟨A1, c1, rfl, hs1, hb1⟩
    go_wp2
    go_ret2
    exact retSO_err rfl hb1
  by_cases hk2 : 10000 < k
  · rw [if_neg (by omega)] at he0
    subst he0
    rw [if_neg (by omega)] at hR
    subst hR
    clear h hr hn
    go_enter Try.func36, Try.ntmps36
    go_wp2_with fail
    refine (HD.out _ (Below.refl _ _)).mono ?_
    rintro e w1 ⟨A1, c1, rfl, hs1, hb1⟩
    go_wp2
    go_ret2
    exact retSO_err rfl hb1
  have hk : -10000 ≤ k ∧ k ≤ 10000 := by omega
  rw [if_pos ⟨rfl, hk⟩] at he0
  obtain ⟨hp, hi, hj, hab⟩ := dur_yes hr
  have ha := Clk.isT_bd hi
  obtain ⟨m1, m2, m3, m4⟩ := more_facts ha (Clk.isT_bd hj) hab hk
  have hAR := add_of hr hk
  have HT := Lib.hid fun (b0 : Nat) (W : World) (hs : Stp W (some ⟨b0, 0, none⟩) 3 [⟨0, 0⟩, ⟨a, k⟩, ⟨b, 0⟩]) => tidyP_any _ (asc3 ha.1 hab) b0 0 3 3 rfl (by decide) (by decide) W hs
  have HG := Lib.hid fun (B : Option Addr) (d : Nat) W (hW : Below w.heap.size w W) (hs : Stp W B d (moreL a b k)) => together_any l (moreL a b k) A B n (moreL a b k).length c d hn rfl (by omega) W (h.below hW) hs (hp.togB m3)
  rw [hn.symm] at HG
  obtain ⟨R0, hR0⟩ : ∃ R0, addR l a b k = R0 := ⟨_, rfl⟩
  rw [hR0] at hAR hR he0
  unfold addR at hR0
  rw [hR0] at HG
  rw [hn] at HG
  have hRl := hAR.len
  have HCN := Lib.hid fun (B : Option Addr) (d : Nat) W (hs : Stp W B d R0) => counts_any R0 B R0.length d rfl W hs
  unfold RetP at HT HG
  have HML := Lib.hid (show tdF [] [⟨0, 0⟩, ⟨a, k⟩, ⟨b, 0⟩] = moreL a b k from rfl)
  rw [HML.out] at HT
  obtain ⟨q, hq⟩ : ∃ q, (moreL a b k).length = q := ⟨_, rfl⟩
  rw [hq] at HT HG
  have hrn : R0.length ≤ 20000 := by omega
  obtain ⟨rn, hrn2⟩ : ∃ rn, R0.length = rn := ⟨_, rfl⟩
  rw [hrn2] at HG HCN hrn
  have HRN := Lib.hid hrn2
  cases hok : okS R0
  · rw [hok] at he0 HCN
    rw [if_neg (by decide)] at he0
    subst he0
    rw [if_neg (by decide)] at hR
    subst hR
    clear h hr hn hp hi hj hab ha m1 m2 m3 m4 hAR hR0 hRl hq hrn2 hok
    go_enter Try.func36, Try.ntmps36
    go_wp2_with fail
    refine (HD.out _ (Below.refl _ _)).mono ?_
    rintro e w1 ⟨A1, c1, rfl, hs1, hb1⟩
    have HB1 := Lib.hid hb1
    clear hs1 hb1
    go_wp2_with fail
    refine (HT.out _ _ (lit3 (heap_alloc_new w1 _))).mono ?_
    rintro e w2 ⟨A2, c2, rfl, ho2, hb2⟩
    have HB2 := Lib.hid (blw HB1.out (blw (al w1 (.cells #[.int .i64 0, .int .i64 0, .int .i64 a, .int .i64 k, .int .i64 b, .int .i64 0] 58)) hb2))
    have hs2 := ho2.stp.2
    have HS2 := Lib.hid hs2
    clear ho2 hb2 hs2
    go_wp2_with fail
    refine (HG.out _ _ _ HB2.out HS2.out).mono ?_
    rintro e w3 ⟨A3, c3, rfl, ho3, hb3⟩
    have hs3 := ho3.stp.2
    have HB3 := Lib.hid (blw HB2.out hb3); have HS3 := Lib.hid hs3
    clear ho3 hb3 hs3
    go_wp2_with fail
    refine (HCN.out _ _ _ HS3.out).mono ?_
    rintro e w4 ⟨rfl, hb4⟩
    have HB4 := Lib.hid (blw HB3.out hb4); have HS4 := Lib.hid (HS3.out.below hb4)
    clear hb4
    go_wp2
    go_ret2
    exact retSO_err rfl HB4.out
  · rw [hok] at he0 HCN
    rw [if_pos rfl] at he0
    subst he0
    rw [if_pos rfl] at hR
    subst hR
    clear h hr hn hp hi hj hab ha m1 m2 m3 m4 hAR hR0 hRl hq hrn2 hok
    go_enter Try.func36, Try.ntmps36
    go_wp2_with fail
    refine (HD.out _ (Below.refl _ _)).mono ?_
    rintro e w1 ⟨A1, c1, rfl, hs1, hb1⟩
    have HB1 := Lib.hid hb1
    clear hs1 hb1
    go_wp2_with fail
    refine (HT.out _ _ (lit3 (heap_alloc_new w1 _))).mono ?_
    rintro e w2 ⟨A2, c2, rfl, ho2, hb2⟩
    have HB2 := Lib.hid (blw HB1.out (blw (al w1 (.cells #[.int .i64 0, .int .i64 0, .int .i64 a, .int .i64 k, .int .i64 b, .int .i64 0] 58)) hb2))
    have hs2 := ho2.stp.2
    have HS2 := Lib.hid hs2
    clear ho2 hb2 hs2
    go_wp2_with fail
    refine (HG.out _ _ _ HB2.out HS2.out).mono ?_
    rintro e w3 ⟨A3, c3, rfl, ho3, hb3⟩
    have hs3 := ho3.stp.2
    have HF3 : Hid (∀ q off, A3 = some ⟨q, off, none⟩ → w.heap.size ≤ q) := Lib.hid fun q off e => by subst e; have h1 := (World.ownsRow.lt ho3 q rfl).1; have h2 := HB2.out.size; omega
    have HB3 := Lib.hid (blw HB2.out hb3); have HS3 := Lib.hid hs3
    clear ho3 hb3 hs3
    go_wp2_with fail
    refine (HCN.out _ _ _ HS3.out).mono ?_
    rintro e w4 ⟨rfl, hb4⟩
    have HB4 := Lib.hid (blw HB3.out hb4); have HS4 := Lib.hid (HS3.out.below hb4)
    clear hb4
    go_wp2
    go_ret2
    exact ⟨A3, c3, by rw [HRN.out]; rfl, HS4.out, HB4.out, HF3.out⟩
end Go.Proofs.Ytapojmniokdjfaa.Stp

