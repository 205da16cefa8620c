/- Layer 8: Earliest, and by when; why there are no windows. -/
import Derived.Test.YtkicanegjkemoaaDoorRnkLen
import Derived.Test.YtkicanegjkemoaaDoorSplHoldP
namespace Go.Proofs.YtkicanegjkemoaaDoor
open Go.RowKit Go.Shelf
open Dag (Ints Own1 Sl num num_len num_get Gr newE order behL order_ord)
set_option linter.unusedVariables false
set_option maxRecDepth 100000

theorem ear_any (f : FlowD) (A : Option Addr) (c : Nat) (now : Int) (w : World) (h : FlA w f A c) (v e0 : Int) (hv : earV f now = v) (he : earE f now = e0) :
    Calls Tryd.prog 39 #[.agg #[.string (sb f.name), .int .i64 f.deadline, .int .i64 f.priority, .slice A f.tasks.length c], .int .i64 now] w fun e w' => e = .returned (.tuple #[.int .i64 v, .int .i64 e0]) ∧ Below w.heap.size w w' := by
  have HL := Lib.hid fun W (hW : Below w.heap.size w W) => length_any f A c W (h.below hW)
  have HIS := Lib.hid fun (W : World) => Clk.is_any now W
  have HB := Lib.hid (lenV_bd f)
  clear h
  obtain ⟨r, hr⟩ : ∃ r, rankE f (upD f.tasks) = r := ⟨_, rfl⟩
  obtain ⟨L, hL⟩ : ∃ L, lengthV f = L := ⟨_, rfl⟩
  rw [hr, hL] at HL
  rw [hL] at HB
  unfold earV at hv
  rw [he] at hv
  unfold earE at he
  rw [hr, hL] at he
  rw [hL] at hv
  have HV := Lib.hid hv; have HE := Lib.hid he
  clear hv he hr hL
  cases ht : Clk.isT now
  · have he := HE.out
    rw [ht, if_neg (by decide)] at he
    subst he
    have hv := HV.out
    rw [if_neg (by decide)] at hv
    subst hv
    rw [ht] at HIS
    clear ht HV HE
    go_enter Tryd.func39, Tryd.ntmps39
    go_wp2_with fail
    refine (HIS.out _).mono ?_
    rintro e w1 ⟨rfl, rfl⟩
    go_wp2
    go_ret2
    exact ⟨rfl, al _ _⟩
  · have hb := Clk.isT_bd ht
    rw [ht] at HIS
    have he := HE.out
    rw [ht, if_pos rfl] at he
    by_cases hr0 : r = 0
    · subst hr0
      rw [if_pos rfl] at he
      by_cases hle : now + L ≤ 1099511627775
      · rw [if_pos (by unfold maxT; exact hle)] at he
        subst he
        have hv := HV.out
        rw [if_pos rfl] at hv
        subst hv
        obtain ⟨v1, e1⟩ := (add_two hb.1 hb.2 HB.out.1 (by have := HB.out.2; unfold maxT at this; exact this)).1 hle
        have HA := Lib.hid fun (g : Nat) (W : World) (hc : W.cell? ⟨g, 0, none⟩ = some (.int .i64 L)) => add1_any now L g W hc (now + L) 0 v1 e1
        clear ht HV HE v1 e1 hb
        go_enter Tryd.func39, Tryd.ntmps39
        go_wp2_with fail
        refine (HIS.out _).mono ?_
        rintro e w1 ⟨rfl, rfl⟩
        go_wp2_with fail
        refine (HL.out _ (al _ _)).mono ?_
        rintro e w1 ⟨rfl, hb1⟩
        have HB1 := Lib.hid (blw (al w (flowO f A c)) hb1)
        clear hb1
        go_wp2_with fail
        refine (HA.out _ _ (by simp)).mono ?_
        rintro e w2 ⟨rfl, rfl⟩
        go_wp2
        go_ret2
        exact ⟨rfl, blw HB1.out (al _ _)⟩
      · rw [if_neg (by unfold maxT; exact hle)] at he
        subst he
        have hv := HV.out
        rw [if_neg (by decide)] at hv
        subst hv
        obtain ⟨v1, e1⟩ := (add_two hb.1 hb.2 HB.out.1 (by have := HB.out.2; unfold maxT at this; exact this)).2 (by omega)
        have HA := Lib.hid fun (g : Nat) (W : World) (hc : W.cell? ⟨g, 0, none⟩ = some (.int .i64 L)) => add1_any now L g W hc 0 6 v1 e1
        clear ht HV HE v1 e1 hb hle
        go_enter Tryd.func39, Tryd.ntmps39
        go_wp2_with fail
        refine (HIS.out _).mono ?_
        rintro e w1 ⟨rfl, rfl⟩
        go_wp2_with fail
        refine (HL.out _ (al _ _)).mono ?_
        rintro e w1 ⟨rfl, hb1⟩
        have HB1 := Lib.hid (blw (al w (flowO f A c)) hb1)
        clear hb1
        go_wp2_with fail
        refine (HA.out _ _ (by simp)).mono ?_
        rintro e w2 ⟨rfl, rfl⟩
        go_wp2
        go_ret2
        exact ⟨rfl, blw HB1.out (al _ _)⟩
    · rw [if_neg hr0] at he
      subst he
      have hv := HV.out
      rw [if_neg hr0] at hv
      subst hv
      have hrn : (r != 0) = true := by simp [hr0]
      clear ht HV HE hb hr0
      go_enter Tryd.func39, Tryd.ntmps39
      go_wp2_with fail
      refine (HIS.out _).mono ?_
      rintro e w1 ⟨rfl, rfl⟩
      go_wp2_with fail
      refine (HL.out _ (al _ _)).mono ?_
      rintro e w1 ⟨rfl, hb1⟩
      have HB1 := Lib.hid (blw (al w (flowO f A c)) hb1)
      clear hb1
      go_wp2
      go_ret2
      exact ⟨rfl, HB1.out⟩

def lwV (f : FlowD) (now by_ : Int) : Int := if winE f now by_ = 0 then lengthV f else 0
theorem within_any (f : FlowD) (A : Option Addr) (c : Nat) (now by_ : Int) (w : World) (h : FlA w f A c) (v e0 : Int) (hv : lwV f now by_ = v) (he : winE f now by_ = e0) :
    Calls Tryd.prog 18 #[.agg #[.string (sb f.name), .int .i64 f.deadline, .int .i64 f.priority, .slice A f.tasks.length c], .int .i64 now, .int .i64 by_] w fun e w' => e = .returned (.tuple #[.int .i64 v, .int .i64 e0]) ∧ Below w.heap.size w w' := by
  obtain ⟨r, hr⟩ : ∃ r, earE f now = r := ⟨_, rfl⟩
  obtain ⟨t, ht⟩ : ∃ t, earV f now = t := ⟨_, rfl⟩
  have HR := Lib.hid fun W (hW : Below w.heap.size w W) => ear_any f A c now W (h.below hW) t r ht hr
  have HIS := Lib.hid fun (W : World) => Clk.is_any by_ W
  have HB := Lib.hid (lenV_bd f)
  clear h
  obtain ⟨L, hL⟩ : ∃ L, lengthV f = L := ⟨_, rfl⟩
  unfold lwV at hv
  rw [he, hL] at hv
  unfold winE at he
  rw [hr, hL] at he
  unfold earV at ht
  rw [hr, hL] at ht
  rw [hL] at HB
  have hnow : r = 0 → Clk.isT now = true := fun e => (ear_yes (hr.trans e)).1
  have hnot : Clk.isT now = false → r = 2 := fun e => by rw [← hr]; unfold earE; rw [e, if_neg (by decide)]
  have HV := Lib.hid hv; have HE := Lib.hid he; have HN := Lib.hid hnow; have HO := Lib.hid hnot; have HTT := Lib.hid ht
  clear hv he hr hL hnow hnot ht
  cases hb : Clk.isT by_
  · have he := HE.out
    rw [hb, if_neg (fun h => by cases h.2)] at he
    subst he
    have hv := HV.out
    rw [if_neg (by decide)] at hv
    subst hv
    rw [hb] at HIS
    clear hb HV HE
    go_enter Tryd.func18, Tryd.ntmps18
    go_wp2_with fail
    refine (HIS.out _).mono ?_
    rintro e w1 ⟨rfl, rfl⟩
    go_wp2
    go_ret2
    exact ⟨rfl, al _ _⟩
  · rw [hb] at HIS
    by_cases hr0 : r = 0
    · have hn := HN.out hr0
      have he := HE.out
      rw [if_pos ⟨hn, hb⟩, if_pos hr0] at he
      have ht := HTT.out
      rw [if_pos hr0] at ht
      subst hr0 ht
      have hnb := Clk.isT_bd hn
      have hLb := HB.out
      unfold maxT at hLb
      by_cases hlt : by_ < now + L
      · rw [if_pos hlt] at he
        subst he
        have hv := HV.out
        rw [if_neg (by decide)] at hv
        subst hv
        clear hb HV HE HN HO HTT hn
        go_enter Tryd.func18, Tryd.ntmps18
        go_wp2_with fail
        refine (HIS.out _).mono ?_
        rintro e w1 ⟨rfl, rfl⟩
        go_wp2_with fail
        refine (HR.out _ (al _ _)).mono ?_
        rintro e w1 ⟨rfl, hb1⟩
        have HB1 := Lib.hid (blw (al w (flowO f A c)) hb1)
        clear hb1
        go_wp2
        go_ret2
        exact ⟨rfl, HB1.out⟩
      · rw [if_neg hlt] at he
        subst he
        have hv := HV.out
        rw [if_pos rfl] at hv
        subst hv
        have hge : now + L ≤ by_ := by omega
        clear hb HV HE HN HO HTT hn hlt
        go_enter Tryd.func18, Tryd.ntmps18
        go_wp2_with fail
        refine (HIS.out _).mono ?_
        rintro e w1 ⟨rfl, rfl⟩
        go_wp2_with fail
        refine (HR.out _ (al _ _)).mono ?_
        rintro e w1 ⟨rfl, hb1⟩
        have HB1 := Lib.hid (blw (al w (flowO f A c)) hb1)
        clear hb1
        go_wp2
        go_ret2
        exact ⟨by rw [show now + L - now = L from by omega]; rfl, HB1.out⟩
    · have hne : e0 = r := by
        have he := HE.out
        by_cases hn : Clk.isT now = true
        · rw [if_pos ⟨hn, hb⟩, if_neg hr0] at he; exact he.symm
        · rw [if_neg (fun h => hn h.1)] at he
          rw [← he, HO.out (by simpa using hn)]
      subst hne
      have hv := HV.out
      rw [if_neg hr0] at hv
      subst hv
      have hrn : (e0 != 0) = true := by simp [hr0]
      clear hb HV HE HN HO HTT hr0
      go_enter Tryd.func18, Tryd.ntmps18
      go_wp2_with fail
      refine (HIS.out _).mono ?_
      rintro e w1 ⟨rfl, rfl⟩
      go_wp2_with fail
      refine (HR.out _ (al _ _)).mono ?_
      rintro e w1 ⟨rfl, hb1⟩
      have HB1 := Lib.hid (blw (al w (flowO f A c)) hb1)
      clear hb1
      go_wp2
      go_ret2
      exact ⟨rfl, HB1.out⟩
end Go.Proofs.YtkicanegjkemoaaDoor

