/- Layer 13: areAllowed. -/
import Derived.Test.YtgejonmjmieglaaDoorLifB
import Derived.StillTailTactics
namespace Go.Proofs.YtgejonmjmieglaaDoor.Lf
open Go.RowKit
open Dag (Ints IRows Own1 OwnI Sl ints num info_int)
set_option linter.unusedVariables false
set_option maxRecDepth 100000

/-- what areAllowed asks of one task -/
def alwP (ts : List TaskD) (S F : List Int) (v : Nat) : Prop := ∀ t, ts[v]? = some t → alwB t (freeD S t.after) (atI S v) (atI F v) = true
theorem next_ok {ts : List TaskD} {S F : List Int} {k : Nat} {t : TaskD} (h : ∀ v t, v < k → ts[v]? = some t → alwB t (freeD S t.after) (atI S v) (atI F v) = true) (ht : ts[k]? = some t) (ha : alwB t (freeD S t.after) (atI S k) (atI F k) = true) : ∀ v t, v < k + 1 → ts[v]? = some t → alwB t (freeD S t.after) (atI S v) (atI F v) = true := fun v t' hv ht' => by
  rcases Nat.lt_or_ge v k with h1 | h1
  · exact h v t' h1 ht'
  · obtain rfl : v = k := by omega
    rw [ht] at ht'; injection ht' with e; subst e; exact ha
theorem not_ok {ts : List TaskD} {S F : List Int} {k : Nat} {t : TaskD} {r : Bool} (hr : r = true ↔ ∀ v t, ts[v]? = some t → alwB t (freeD S t.after) (atI S v) (atI F v) = true) (ht : ts[k]? = some t) (ha : alwB t (freeD S t.after) (atI S k) (atI F k) = false) : r = false := by
  cases r
  · rfl
  · rw [hr.1 rfl k t ht] at ha; cases ha
theorem alw_cases (t : TaskD) (fr : Bool) (s k : Int) : alwB t fr s k = (mayB t s k && (if s = 0 ∨ s = 4 ∨ s = 5 then !t.done else if s = 1 ∨ s = 3 then !t.done && fr else if s = 2 then t.done || fr else false)) := rfl
set_option maxHeartbeats 6400000 in
theorem areAllowed_any (f : FlowD) (hf : FlwOK f) (A : Option Addr) (c : Nat) (w : World) (h : Tasks w A c f.tasks) (S F : List Int) (SA FA : Option Addr) (n sc m fc : Nat) (hL : Lif w SA n sc FA m fc S F) (hSn : S.length = f.tasks.length) (hFn : F.length = f.tasks.length) (r : Bool) (hr : r = true ↔ ∀ v t, f.tasks[v]? = some t → alwB t (freeD S t.after) (atI S v) (atI F v) = true) :
    Calls Tryd.prog 47 #[.agg #[.string (sb f.name), .int .i64 f.deadline, .int .i64 f.priority, .slice A f.tasks.length c], .agg #[.slice SA n sc, .slice FA m fc]] w fun e w' => e = .returned (.bool r) ∧ Below w.heap.size w w' := by
  have hlm := h.lenI
  have CF := Lib.hid (fun W (hW : Below w.heap.size w W) v t (ht : f.tasks[v]? = some t) fr (hfr : freeD S t.after = fr) => isFree_any f A c W (h.below hW) S F SA FA n sc m fc (hL.below hW) v t ht (fun x hx => by
    have := hf.valid t.after (List.mem_map.2 ⟨t, List.mem_of_getElem? ht, rfl⟩) x hx
    rw [after_len] at this
    have := hL.n
    omega) fr hfr)
  have CM := Lib.hid (fun (t : TaskD) (ht : t ∈ f.tasks) A' c' s k W r hm => mayFail_any t A' c' s k W (hf.retry t ht) r hm)
  have H := Lib.hid h; have HL := Lib.hid hL; have HSn := Lib.hid hSn; have HFn := Lib.hid hFn; have HR := Lib.hid hr
  clear h hf hL hSn hFn hr
  go_enter Tryd.func47, Tryd.ntmps47
  go_wp2_with fail
  refine wp_scope_straight ?_
  go_wp2_with fail
  refine wp_label ?_
  go_wp2_with fail
  have HB0 := Lib.hid (blw (al w (flowO f A c)) (al _ (lifO SA n sc FA m fc)))
  have HO0 : Hid (((w.alloc (flowO f A c)).alloc (lifO SA n sc FA m fc)).heap[w.heap.size]? = some (flowO f A c)) := Lib.hid (keep_obj (al _ _) (heap_alloc_new w (flowO f A c)))
  have HX0 : Hid (((w.alloc (flowO f A c)).alloc (lifO SA n sc FA m fc)).heap[w.heap.size + 1]? = some (lifO SA n sc FA m fc)) := Lib.hid (by have := heap_alloc_new (w.alloc (flowO f A c)) (lifO SA n sc FA m fc); simpa using this)
  go_loopw [5, 11] (fun aa i wr => ∃ k : Nat, k ≤ f.tasks.length ∧ i = .int .i64 k ∧ aa = .bool true ∧ Hid (∀ v t, v < k → f.tasks[v]? = some t → alwB t (freeD S t.after) (atI S v) (atI F v) = true) ∧ Hid (Below w.heap.size w wr) ∧ Hid (wr.heap[w.heap.size]? = some (flowO f A c)) ∧ Hid (wr.heap[w.heap.size + 1]? = some (lifO SA n sc FA m fc))) (fun _ i _ => f.tasks.length - (intOf i).toNat)
  case atStart => exact ⟨0, Nat.zero_le _, rfl, rfl, Lib.hid fun v t hv => by omega, HB0, HO0, HX0⟩
  case round =>
    obtain ⟨k, hk, rfl, rfl, HI, HB, HO, HX⟩ := hrel
    by_cases hlt : k < f.tasks.length
    · obtain ⟨t, ht⟩ : ∃ t, f.tasks[k]? = some t := ⟨_, List.getElem?_eq_getElem hlt⟩
      obtain ⟨b, off, A', c', rfl, h0, h1, h2, h3, h4, h5, hI⟩ := (H.out.below HB.out).cells k _ ht
      obtain ⟨x0, x1, _, _⟩ := lifO_cells HX.out
      obtain ⟨b1, o1, s, rfl, hs, cs⟩ := (HL.out.s.below HB.out).at_ (k := k) (by rw [HSn.out]; exact hlt)
      obtain ⟨b2, o2, q, rfl, hq, cq⟩ := (HL.out.f.below HB.out).at_ (k := k) (by rw [HFn.out]; exact hlt)
      have has := atI_some hs
      have haq := atI_some hq
      obtain ⟨fr, hfr⟩ : ∃ fr, freeD S t.after = fr := ⟨_, rfl⟩
      obtain ⟨mb, hmb⟩ : ∃ mb, mayB t s q = mb := ⟨_, rfl⟩
      have hnt := List.mem_of_getElem? ht
      have HCM := Lib.hid (fun W => CM.out t hnt A' c' s q W mb hmb)
      have HCF := Lib.hid (fun W (hW : Below w.heap.size w W) => CF.out W hW k t ht fr hfr)
      have HT := Lib.hid ht
      have HAL := Lib.hid (show alwB t (freeD S t.after) (atI S k) (atI F k) = (mb && (if s = 0 ∨ s = 4 ∨ s = 5 then !t.done else if s = 1 ∨ s = 3 then !t.done && fr else if s = 2 then t.done || fr else false)) by rw [alw_cases, has, haq, hfr, hmb])
      have hk1 : k < n := by rw [← HL.out.n, HSn.out]; exact hlt
      have hk2 : k < m := by rw [← HL.out.m, HFn.out]; exact hlt
      go_wp2_with fail
      have hw2 := heap_alloc_new wr (.cells #[.string (sb t.name), .int .i64 t.nodes, .int .i64 t.wall, .int .i64 t.retry, .bool t.done, .slice A' t.after.length c'] 64)
      have hb2 := al wr (.cells #[.string (sb t.name), .int .i64 t.nodes, .int .i64 t.wall, .int .i64 t.retry, .bool t.done, .slice A' t.after.length c'] 64)
      replace x0 := keep_cell hb2 x0; replace x1 := keep_cell hb2 x1; replace cs := keep_cell hb2 cs; replace cq := keep_cell hb2 cq
      have HB2 := Lib.hid (blw HB.out hb2)
      have HX2 := Lib.hid (keep_obj hb2 HX.out)
      have HO2 := Lib.hid (keep_obj hb2 HO.out)
      clear h0 h1 h2 h3 h4 h5 hI hb2
      generalize wr.alloc (.cells #[.string (sb t.name), .int .i64 t.nodes, .int .i64 t.wall, .int .i64 t.retry, .bool t.done, .slice A' t.after.length c'] 64) = w2 at hw2 x0 x1 cs cq HB2 HX2 HO2 ⊢
      generalize wr.heap.size = tb at hw2 ⊢
      have t0 := (Dag.blk_cell hw2 0).trans rfl
      have t1 := (Dag.blk_cell hw2 1).trans rfl
      have t2 := (Dag.blk_cell hw2 2).trans rfl
      have t3 := (Dag.blk_cell hw2 3).trans rfl
      have t4 := (Dag.blk_cell hw2 4).trans rfl
      have t5 := (Dag.blk_cell hw2 5).trans rfl
      have HTB := Lib.hid hw2
      clear hw2
      go_still_tail 11, (by kernel_rfl)
      change wpList _ _ _ _ _ w2.drew
      go_wp2_with fail
      refine (HCM.out _).mono ?_
      rintro e w4 ⟨rfl, hb4⟩
      have x0 := keep_cell (W := w2.drew) hb4 x0
      have x1 := keep_cell (W := w2.drew) hb4 x1
      have cs := keep_cell (W := w2.drew) hb4 cs
      have HTB4 := Lib.hid (keep_obj (W := w2.drew) hb4 HTB.out)
      have HO4 := Lib.hid (keep_obj (W := w2.drew) hb4 HO2.out)
      have HX4 := Lib.hid (keep_obj (W := w2.drew) hb4 HX2.out)
      have HB4 := Lib.hid (blw (w1 := w2.drew) (w := w) (show Below w.heap.size w w2.drew from HB2.out.trans ((Dag.below_drew _ _).mono HB2.out.size)) hb4)
      clear hb4 cq t0 t1 t2 t3 t5
      have t4 := (Dag.blk_cell HTB4.out 4).trans rfl
      obtain ⟨p0, p1, p2, p3, hp⟩ := flowO_cells HO4.out
      by_cases hs0 : s = 0
      · subst hs0
        cases mb
        · skip
          have hal : alwB t (freeD S t.after) (atI S k) (atI F k) = false := by rw [HAL.out]; simp 
          have HRF := Lib.hid (not_ok HR.out HT.out hal)
          clear hal
          go_wp2
          simp only [Exit.noGoto]
          go_ret
          exact ⟨by rw [HRF.out]; rfl, HB4.out⟩
        · skip
          cases hdn : t.done
          · rw [hdn] at t4
            have hal : alwB t (freeD S t.after) (atI S k) (atI F k) = true := by rw [HAL.out]; simp [hdn]
            have HI2 := Lib.hid (next_ok HI.out HT.out hal)
            clear hal hdn
            go_wp2
            go_roundw
            case rel => exact ⟨k + 1, by omega, by go_num, rfl, HI2, HB4, HO4, HX4⟩
            case measure => simp [intOf]; omega
          · rw [hdn] at t4
            have hal : alwB t (freeD S t.after) (atI S k) (atI F k) = false := by rw [HAL.out]; simp [hdn]
            have HRF := Lib.hid (not_ok HR.out HT.out hal)
            clear hal hdn
            go_wp2
            simp only [Exit.noGoto]
            go_ret
            exact ⟨by rw [HRF.out]; rfl, HB4.out⟩
      by_cases hs4 : s = 4
      · subst hs4
        cases mb
        · skip
          have hal : alwB t (freeD S t.after) (atI S k) (atI F k) = false := by rw [HAL.out]; simp 
          have HRF := Lib.hid (not_ok HR.out HT.out hal)
          clear hal
          go_wp2
          simp only [Exit.noGoto]
          go_ret
          exact ⟨by rw [HRF.out]; rfl, HB4.out⟩
        · skip
          cases hdn : t.done
          · rw [hdn] at t4
            have hal : alwB t (freeD S t.after) (atI S k) (atI F k) = true := by rw [HAL.out]; simp [hdn]
            have HI2 := Lib.hid (next_ok HI.out HT.out hal)
            clear hal hdn
            go_wp2
            go_roundw
            case rel => exact ⟨k + 1, by omega, by go_num, rfl, HI2, HB4, HO4, HX4⟩
            case measure => simp [intOf]; omega
          · rw [hdn] at t4
            have hal : alwB t (freeD S t.after) (atI S k) (atI F k) = false := by rw [HAL.out]; simp [hdn]
            have HRF := Lib.hid (not_ok HR.out HT.out hal)
            clear hal hdn
            go_wp2
            simp only [Exit.noGoto]
            go_ret
            exact ⟨by rw [HRF.out]; rfl, HB4.out⟩
      by_cases hs5 : s = 5
      · subst hs5
        cases mb
        · skip
          have hal : alwB t (freeD S t.after) (atI S k) (atI F k) = false := by rw [HAL.out]; simp 
          have HRF := Lib.hid (not_ok HR.out HT.out hal)
          clear hal
          go_wp2
          simp only [Exit.noGoto]
          go_ret
          exact ⟨by rw [HRF.out]; rfl, HB4.out⟩
        · skip
          cases hdn : t.done
          · rw [hdn] at t4
            have hal : alwB t (freeD S t.after) (atI S k) (atI F k) = true := by rw [HAL.out]; simp [hdn]
            have HI2 := Lib.hid (next_ok HI.out HT.out hal)
            clear hal hdn
            go_wp2
            go_roundw
            case rel => exact ⟨k + 1, by omega, by go_num, rfl, HI2, HB4, HO4, HX4⟩
            case measure => simp [intOf]; omega
          · rw [hdn] at t4
            have hal : alwB t (freeD S t.after) (atI S k) (atI F k) = false := by rw [HAL.out]; simp [hdn]
            have HRF := Lib.hid (not_ok HR.out HT.out hal)
            clear hal hdn
            go_wp2
            simp only [Exit.noGoto]
            go_ret
            exact ⟨by rw [HRF.out]; rfl, HB4.out⟩
      by_cases hs1 : s = 1
      · subst hs1
        cases mb
        · skip
          have hal : alwB t (freeD S t.after) (atI S k) (atI F k) = false := by rw [HAL.out]; simp 
          have HRF := Lib.hid (not_ok HR.out HT.out hal)
          clear hal
          go_wp2
          simp only [Exit.noGoto]
          go_ret
          exact ⟨by rw [HRF.out]; rfl, HB4.out⟩
        · skip
          cases hdn : t.done
          · rw [hdn] at t4
            cases fr
            · skip
              have hal : alwB t (freeD S t.after) (atI S k) (atI F k) = false := by rw [HAL.out]; simp [hdn]
              have HRF := Lib.hid (not_ok HR.out HT.out hal)
              clear hal hdn
              go_wp2_with fail
              refine (HCF.out _ HB4.out).mono ?_
              rintro e w5 ⟨rfl, hb5⟩
              have HB5 := Lib.hid (blw HB4.out hb5)
              have HO5 := Lib.hid (keep_obj hb5 HO4.out)
              have HX5 := Lib.hid (keep_obj hb5 HX4.out)
              clear hb5
              go_wp2
              simp only [Exit.noGoto]
              go_ret
              exact ⟨by rw [HRF.out]; rfl, HB5.out⟩
            · skip
              have hal : alwB t (freeD S t.after) (atI S k) (atI F k) = true := by rw [HAL.out]; simp [hdn]
              have HI2 := Lib.hid (next_ok HI.out HT.out hal)
              clear hal hdn
              go_wp2_with fail
              refine (HCF.out _ HB4.out).mono ?_
              rintro e w5 ⟨rfl, hb5⟩
              have HB5 := Lib.hid (blw HB4.out hb5)
              have HO5 := Lib.hid (keep_obj hb5 HO4.out)
              have HX5 := Lib.hid (keep_obj hb5 HX4.out)
              clear hb5
              go_wp2
              go_roundw
              case rel => exact ⟨k + 1, by omega, by go_num, rfl, HI2, HB5, HO5, HX5⟩
              case measure => simp [intOf]; omega
          · rw [hdn] at t4
            have hal : alwB t (freeD S t.after) (atI S k) (atI F k) = false := by rw [HAL.out]; simp [hdn]
            have HRF := Lib.hid (not_ok HR.out HT.out hal)
            clear hal hdn
            go_wp2
            simp only [Exit.noGoto]
            go_ret
            exact ⟨by rw [HRF.out]; rfl, HB4.out⟩
      by_cases hs3 : s = 3
      · subst hs3
        cases mb
        · skip
          have hal : alwB t (freeD S t.after) (atI S k) (atI F k) = false := by rw [HAL.out]; simp 
          have HRF := Lib.hid (not_ok HR.out HT.out hal)
          clear hal
          go_wp2
          simp only [Exit.noGoto]
          go_ret
          exact ⟨by rw [HRF.out]; rfl, HB4.out⟩
        · skip
          cases hdn : t.done
          · rw [hdn] at t4
            cases fr
            · skip
              have hal : alwB t (freeD S t.after) (atI S k) (atI F k) = false := by rw [HAL.out]; simp [hdn]
              have HRF := Lib.hid (not_ok HR.out HT.out hal)
              clear hal hdn
              go_wp2_with fail
              refine (HCF.out _ HB4.out).mono ?_
              rintro e w5 ⟨rfl, hb5⟩
              have HB5 := Lib.hid (blw HB4.out hb5)
              have HO5 := Lib.hid (keep_obj hb5 HO4.out)
              have HX5 := Lib.hid (keep_obj hb5 HX4.out)
              clear hb5
              go_wp2
              simp only [Exit.noGoto]
              go_ret
              exact ⟨by rw [HRF.out]; rfl, HB5.out⟩
            · skip
              have hal : alwB t (freeD S t.after) (atI S k) (atI F k) = true := by rw [HAL.out]; simp [hdn]
              have HI2 := Lib.hid (next_ok HI.out HT.out hal)
              clear hal hdn
              go_wp2_with fail
              refine (HCF.out _ HB4.out).mono ?_
              rintro e w5 ⟨rfl, hb5⟩
              have HB5 := Lib.hid (blw HB4.out hb5)
              have HO5 := Lib.hid (keep_obj hb5 HO4.out)
              have HX5 := Lib.hid (keep_obj hb5 HX4.out)
              clear hb5
              go_wp2
              go_roundw
              case rel => exact ⟨k + 1, by omega, by go_num, rfl, HI2, HB5, HO5, HX5⟩
              case measure => simp [intOf]; omega
          · rw [hdn] at t4
            have hal : alwB t (freeD S t.after) (atI S k) (atI F k) = false := by rw [HAL.out]; simp [hdn]
            have HRF := Lib.hid (not_ok HR.out HT.out hal)
            clear hal hdn
            go_wp2
            simp only [Exit.noGoto]
            go_ret
            exact ⟨by rw [HRF.out]; rfl, HB4.out⟩
      by_cases hs2 : s = 2
      · subst hs2
        cases mb
        · skip
          have hal : alwB t (freeD S t.after) (atI S k) (atI F k) = false := by rw [HAL.out]; simp 
          have HRF := Lib.hid (not_ok HR.out HT.out hal)
          clear hal
          go_wp2
          simp only [Exit.noGoto]
          go_ret
          exact ⟨by rw [HRF.out]; rfl, HB4.out⟩
        · skip
          cases hdn : t.done
          · rw [hdn] at t4
            cases fr
            · skip
              have hal : alwB t (freeD S t.after) (atI S k) (atI F k) = false := by rw [HAL.out]; simp [hdn]
              have HRF := Lib.hid (not_ok HR.out HT.out hal)
              clear hal hdn
              go_wp2_with fail
              refine (HCF.out _ HB4.out).mono ?_
              rintro e w5 ⟨rfl, hb5⟩
              have HB5 := Lib.hid (blw HB4.out hb5)
              have HO5 := Lib.hid (keep_obj hb5 HO4.out)
              have HX5 := Lib.hid (keep_obj hb5 HX4.out)
              clear hb5
              go_wp2
              simp only [Exit.noGoto]
              go_ret
              exact ⟨by rw [HRF.out]; rfl, HB5.out⟩
            · skip
              have hal : alwB t (freeD S t.after) (atI S k) (atI F k) = true := by rw [HAL.out]; simp [hdn]
              have HI2 := Lib.hid (next_ok HI.out HT.out hal)
              clear hal hdn
              go_wp2_with fail
              refine (HCF.out _ HB4.out).mono ?_
              rintro e w5 ⟨rfl, hb5⟩
              have HB5 := Lib.hid (blw HB4.out hb5)
              have HO5 := Lib.hid (keep_obj hb5 HO4.out)
              have HX5 := Lib.hid (keep_obj hb5 HX4.out)
              clear hb5
              go_wp2
              go_roundw
              case rel => exact ⟨k + 1, by omega, by go_num, rfl, HI2, HB5, HO5, HX5⟩
              case measure => simp [intOf]; omega
          · rw [hdn] at t4
            have hal : alwB t (freeD S t.after) (atI S k) (atI F k) = true := by rw [HAL.out]; simp [hdn]
            have HI2 := Lib.hid (next_ok HI.out HT.out hal)
            clear hal hdn
            go_wp2
            go_roundw
            case rel => exact ⟨k + 1, by omega, by go_num, rfl, HI2, HB4, HO4, HX4⟩
            case measure => simp [intOf]; omega
      have e0 : (s == 0) = false := by rw [beq_eq_false_iff_ne]; exact hs0
      have e4 : (s == 4) = false := by rw [beq_eq_false_iff_ne]; exact hs4
      have e5 : (s == 5) = false := by rw [beq_eq_false_iff_ne]; exact hs5
      have e1 : (s == 1) = false := by rw [beq_eq_false_iff_ne]; exact hs1
      have e3 : (s == 3) = false := by rw [beq_eq_false_iff_ne]; exact hs3
      have e2 : (s == 2) = false := by rw [beq_eq_false_iff_ne]; exact hs2
      have hal : alwB t (freeD S t.after) (atI S k) (atI F k) = false := by rw [HAL.out]; simp [hs0, hs4, hs5, hs1, hs3, hs2]
      have HRF := Lib.hid (not_ok HR.out HT.out hal)
      clear hal hs0 hs4 hs5 hs1 hs3 hs2
      go_wp2
      simp only [Exit.noGoto]
      go_ret
      exact ⟨by rw [HRF.out]; rfl, HB4.out⟩
    · obtain rfl : k = f.tasks.length := by omega
      have HRT := Lib.hid (show r = true from HR.out.2 fun v t ht => HI.out v t (List.getElem?_eq_some_iff.1 ht).1 ht)
      go_wp2
      simp only [Exit.noGoto]
      go_ret
      exact ⟨by rw [HRT.out]; rfl, HB.out⟩
end Go.Proofs.YtgejonmjmieglaaDoor.Lf

