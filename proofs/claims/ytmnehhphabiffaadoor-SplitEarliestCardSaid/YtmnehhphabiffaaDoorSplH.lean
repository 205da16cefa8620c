/- Layer 8: Slack: how much of each window is not needed; the document's Earliest. -/
import Derived.Test.YtmnehhphabiffaaDoorSplD
import Derived.Test.YtmnehhphabiffaaDoorRnkRef4
namespace Go.Proofs.YtmnehhphabiffaaDoor
open Go.RowKit Go.Shelf
open Dag (Ints Own1 Sl num num_len num_get Gr newE order behL order_ord)
set_option linter.unusedVariables false
set_option maxRecDepth 100000

theorem rear_any (f : FlowD) (A : Option Addr) (c : Nat) (now : Int) (w : World) (h : FlA w f A c) (v e0 : Int) (hv : earV f now = v) (he : earE f now = e0) :
    Calls Tryd.prog 32 #[.agg #[.string (sb f.name), .int .i64 f.deadline, .int .i64 f.priority, .slice A f.tasks.length c], .int .i64 now] w fun e w' => e = .returned (.tuple #[.int .i64 v, .int .i64 e0]) ∧ Below w.heap.size w w' := by
  have HL := Lib.hid fun W (hW : Below w.heap.size w W) => rlength_any f A c W (h.tasks.below hW) (h.tb.below hW).txt (by have := h.nm; omega) (fun t ht => by have := h.nms t ht; omega) h.len
  have HIS := Lib.hid fun (W : World) => Clk.ris_any now W
  have HB := Lib.hid (lenV_bd f)
  clear h
  obtain ⟨r, hr⟩ : ∃ r, rankE f (upD f.tasks) = r := ⟨_, rfl⟩
  obtain ⟨L, hL⟩ : ∃ L, lengthV f = L := ⟨_, rfl⟩
  rw [hr, hL] at HL
  rw [hL] at HB
  unfold earV at hv
  rw [he] at hv
  unfold earE at he
  rw [hr, hL] at he
  rw [hL] at hv
  have HV := Lib.hid hv; have HE := Lib.hid he
  clear hv he hr hL
  cases ht : Clk.isT now
  · have he := HE.out
    rw [ht, if_neg (by decide)] at he
    subst he
    have hv := HV.out
    rw [if_neg (by decide)] at hv
    subst hv
    rw [ht] at HIS
    clear ht HV HE
    go_enter Tryd.func32, Tryd.ntmps32
    go_wp2_with fail
    refine (HIS.out _).mono ?_
    rintro e w1 ⟨rfl, rfl⟩
    go_wp2
    go_ret2
    exact ⟨rfl, al _ _⟩
  · have hb := Clk.isT_bd ht
    rw [ht] at HIS
    have he := HE.out
    rw [ht, if_pos rfl] at he
    have hLB := HB.out
    unfold maxT at hLB
    by_cases hr0 : r = 0
    · subst hr0
      rw [if_pos rfl] at he
      by_cases hle : now + L ≤ 1099511627775
      · rw [if_pos (by unfold maxT; exact hle)] at he
        subst he
        have hv := HV.out
        rw [if_pos rfl] at hv
        subst hv
        clear ht HV HE
        go_enter Tryd.func32, Tryd.ntmps32
        go_wp2_with fail
        refine (HIS.out _).mono ?_
        rintro e w1 ⟨rfl, rfl⟩
        go_wp2_with fail
        refine (HL.out _ (al _ _)).mono ?_
        rintro e w1 ⟨rfl, hb1⟩
        have HB1 := Lib.hid (blw (al w (flowO f A c)) hb1)
        clear hb1
        go_wp2
        go_ret2
        exact ⟨rfl, HB1.out⟩
      · rw [if_neg (by unfold maxT; exact hle)] at he
        subst he
        have hv := HV.out
        rw [if_neg (by decide)] at hv
        subst hv
        have hgt : 1099511627775 < now + L := by omega
        clear ht HV HE hle
        go_enter Tryd.func32, Tryd.ntmps32
        go_wp2_with fail
        refine (HIS.out _).mono ?_
        rintro e w1 ⟨rfl, rfl⟩
        go_wp2_with fail
        refine (HL.out _ (al _ _)).mono ?_
        rintro e w1 ⟨rfl, hb1⟩
        have HB1 := Lib.hid (blw (al w (flowO f A c)) hb1)
        clear hb1
        go_wp2
        go_ret2
        exact ⟨rfl, HB1.out⟩
    · rw [if_neg hr0] at he
      subst he
      have hv := HV.out
      rw [if_neg hr0] at hv
      subst hv
      have hrn : (r != 0) = true := by simp [hr0]
      have hrn2 : (r == 0) = false := by simp [hr0]
      clear ht HV HE hb hr0
      go_enter Tryd.func32, Tryd.ntmps32
      go_wp2_with fail
      refine (HIS.out _).mono ?_
      rintro e w1 ⟨rfl, rfl⟩
      go_wp2_with fail
      refine (HL.out _ (al _ _)).mono ?_
      rintro e w1 ⟨rfl, hb1⟩
      have HB1 := Lib.hid (blw (al w (flowO f A c)) hb1)
      clear hb1
      go_wp2
      go_ret2
      exact ⟨rfl, HB1.out⟩
end Go.Proofs.YtmnehhphabiffaaDoor

