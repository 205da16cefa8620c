/- Layer 10: the document's Last; what First and Last of the document come to. -/
import Derived.Test.YtldmkbmkjdnaaaaFitI
namespace Go.Proofs.Ytldmkbmkjdnaaaa.Ft
open Go.RowKit Go.Shelf
open Stp
open Dag (Ints Sl Own1 OwnI ints ints_len ints_app)
set_option linter.unusedVariables false
set_option maxRecDepth 100000

set_option maxHeartbeats 3200000 in
theorem rlast_any (l : List StepD) (hp : Prof l) (a b n d : Int) (ha : 0 ≤ a ∧ a ≤ 1099511627775) (hb : 0 ≤ b ∧ b ≤ 1099511627775) (hd : 0 ≤ d ∧ d ≤ 1099511627775) (A : Option Addr) (m c : Nat) (hm : l.length = m) (w : World) (h : Stp w A c l) :
    Calls Try.prog 21 #[.slice A m c, .agg #[.int .i64 a, .int .i64 b], .int .i64 n, .int .i64 d] w fun e w' => e = .returned (.int .i64 (lasN l a b n d)) ∧ Below w.heap.size w w' := by
  have hlb : ∀ s ∈ l, 0 ≤ s.at_ ∧ s.at_ ≤ 1099511627775 := fun s hs => (hp.ok s hs).1
  have HT := Lib.hid fun W (hW : Below w.heap.size w W) => rtim_any l hlb a b d ha hb hd A m c hm (by have := hp.len; omega) W (h.below hW)
  have HF := Lib.hid fun t (ht : t ∈ timD l a b d) W (hW : Below w.heap.size w W) => rfits_any l hp a b n d t hb.2 ha.1 ⟨hd.1, by omega⟩ (tim_bd hlb ha hb hd ht) A m c hm W (h.below hW)
  unfold RF at HF
  unfold RetT at HT
  obtain ⟨x0, x1⟩ := new2 w (.int .i64 a) (.int .i64 b) 28
  obtain ⟨R, hR⟩ : ∃ R, lasN l a b n d = R := ⟨_, rfl⟩
  rw [hR]
  unfold lasN at hR
  obtain ⟨T, hT⟩ : ∃ T, timD l a b d = T := ⟨_, rfl⟩
  obtain ⟨q, hq⟩ : ∃ q, T.length = q := ⟨_, rfl⟩
  have hql : q ≤ 100000 := by
    rw [← hq, ← hT]; unfold timD
    have := hp.len
    simp only [List.length_cons, cand_len]; omega
  rw [hT] at HF HT hR
  rw [hq] at HT
  have HR := Lib.hid hR; have HQ := Lib.hid hq
  have HTB : Hid (∀ t ∈ T, -10000000000000 ≤ t ∧ t ≤ 10000000000000) := Lib.hid fun t ht => tim_bd hlb ha hb hd (by rw [hT]; exact ht)
  clear h hm hp hlb hT hq hR
  go_enter Try.func21, Try.ntmps21
  go_wp2_with fail
  refine (HT.out _ (al w _)).mono ?_
  rintro e w1 ⟨A1, c1, rfl, hi, hb1⟩
  have HI := Lib.hid hi; have HB1 := Lib.hid (blw (al w (.cells #[.int .i64 a, .int .i64 b] 28)) hb1)
  have y0 := kp hb1 x0; have y1 := kp hb1 x1
  have Y := Lib.hid (And.intro y0 y1)
  clear hi hb1 x0 x1 y0 y1
  go_wp2_with fail
  go_loopw [10, 11] (fun vb vi wr => ∃ (i : Nat) (best : Int), i ≤ q ∧ vi = .int .i64 i ∧ vb = .int .i64 best ∧ Hid (lstF (fitB l n d a b) best (T.drop i) = R) ∧ Hid (Below w1.heap.size w1 wr)) (fun _ vi _ => q - (intOf vi).toNat)
  case atStart => exact ⟨0, -1, Nat.zero_le _, rfl, rfl, HR, Lib.hid (Below.refl _ _)⟩
  case round =>
    clear HR
    obtain ⟨i, best, hiq, rfl, rfl, HRB, HX⟩ := hrel
    by_cases hlt : i < q
    · obtain ⟨tb, to_, t, eT, ht, ct⟩ := (Ints.below HI.out HX.out).at_ (k := i) (by rw [HQ.out]; exact hlt)
      subst eT
      have hd0 : T.drop i = t :: T.drop (i + 1) := by rw [List.drop_eq_getElem_cons (by rw [HQ.out]; exact hlt), (List.getElem?_eq_some_iff.1 ht).2]
      have hR := HRB.out
      rw [hd0] at hR
      unfold lstF at hR
      have htm := List.mem_of_getElem? ht
      have hfit := HF.out t htm
      obtain ⟨r, hr⟩ : ∃ r, fitB l n d a b t = r := ⟨_, rfl⟩
      rw [hr] at hR hfit
      have y0 := kp HX.out Y.out.1; have y1 := kp HX.out Y.out.2
      by_cases t0 : 0 ≤ t
      case neg =>
        rw [if_neg (by rintro ⟨h, _⟩; omega)] at hR
        have HR2 := Lib.hid hR
        have g0 : decide (0 ≤ t) = false := decide_eq_false t0
        have s0 : wr.drew.cell? ⟨w.heap.size, 0, none⟩ = some (.int .i64 a) ∧ wr.drew.cell? ⟨w.heap.size, 1, none⟩ = some (.int .i64 b) ∧ wr.drew.cell? ⟨tb, to_ + i, none⟩ = some (.int .i64 t) := ⟨y0, y1, ct⟩
        have HQ0 := Lib.hid (HX.out.trans ((dr wr).mono HX.out.size))
        clear hR HRB hd0 ht hr y0 y1 hfit
        go_wp2_with fail
        clear ct
        refine wp_region_R (fun (W : World) => W.cell? ⟨w.heap.size, 0, none⟩ = some (.int .i64 a) ∧ W.cell? ⟨w.heap.size, 1, none⟩ = some (.int .i64 b) ∧ W.cell? ⟨tb, to_ + i, none⟩ = some (.int .i64 t)) 16 (by kernel_rfl) ?_
        refine wpAnyR_leadI (by kernel_rfl) ?hQ ?hS0 [0, 1, 2, 3, 4, 5, 6, 7, 8, 9, 10, 11, 12, 13, 14, 15] 0 _ _ (by kernel_rfl) ?_
        case hQ => intro c a d v w h; cases d <;> exact h
        case hS0 => exact s0
        iterate 6 (refine wpLeadI_read (v := ?_) _ rfl rfl (by rfl) ?_ ?_; rotate_left; (intro W hW; (try dsimp only at hW); go_simp; (try with_reducible rfl)); try simp only [Act.put, List.setIfInBounds_toArray, List.set_cons_succ, List.set_cons_zero])
        iterate 9 (refine wpLeadI_skip _ rfl rfl (by kernel_rfl) ?_; try simp only [Act.put, List.setIfInBounds_toArray, List.set_cons_succ, List.set_cons_zero])
        iterate 1 (refine wpLeadI_read (v := ?_) _ rfl rfl (by rfl) ?_ ?_; rotate_left; (intro W hW; (try dsimp only at hW); go_simp; (try with_reducible rfl)); try simp only [Act.put, List.setIfInBounds_toArray, List.set_cons_succ, List.set_cons_zero])
        simp only [wpLeadI]
        refine ⟨by kernel_rfl, ?_⟩
        go_wp2_with fail
        refine ⟨⟨i + 1, _, by omega, by go_num, by first | rfl | trivial, HR2, HQ0⟩, ?_⟩
        simp [intOf]; omega
      have g0 : decide (0 ≤ t) = true := decide_eq_true t0
      cases r
      case false =>
        rw [if_neg (by rintro ⟨_, h⟩; cases h)] at hR
        have HR2 := Lib.hid hR
        have s0 : wr.drew.cell? ⟨w.heap.size, 0, none⟩ = some (.int .i64 a) ∧ wr.drew.cell? ⟨w.heap.size, 1, none⟩ = some (.int .i64 b) ∧ wr.drew.cell? ⟨tb, to_ + i, none⟩ = some (.int .i64 t) := ⟨y0, y1, ct⟩
        have HQ0 := Lib.hid (HX.out.trans ((dr wr).mono HX.out.size))
        clear hR HRB hd0 ht hr y0 y1 
        go_wp2_with fail
        clear ct
        refine wp_region_R (fun (W : World) => W.cell? ⟨w.heap.size, 0, none⟩ = some (.int .i64 a) ∧ W.cell? ⟨w.heap.size, 1, none⟩ = some (.int .i64 b) ∧ W.cell? ⟨tb, to_ + i, none⟩ = some (.int .i64 t)) 16 (by kernel_rfl) ?_
        refine wpAnyR_leadI (by kernel_rfl) ?hQ ?hS0 [0, 1, 2, 3, 4, 5, 6, 7, 8, 9, 10, 11, 12, 13] 2 _ _ (by kernel_rfl) ?_
        case hQ => intro c a d v w h; cases d <;> exact h
        case hS0 => exact s0
        iterate 14 (refine wpLeadI_read (v := ?_) _ rfl rfl (by rfl) ?_ ?_; rotate_left; (intro W hW; (try dsimp only at hW); go_simp; (try with_reducible rfl)); try simp only [Act.put, List.setIfInBounds_toArray, List.set_cons_succ, List.set_cons_zero])
        simp only [wpLeadI]
        refine wpAnyR_one (i := 14) rfl (by kernel_rfl) ?_
        intro K1 hK1
        go_simp
        refine (hfit _ (HB1.out.trans (HQ0.out.mono HB1.out.size))).mono ?_
        rintro e x1 ⟨rfl, hb2⟩
        have s1 : x1.cell? ⟨w.heap.size, 0, none⟩ = some (.int .i64 a) ∧ x1.cell? ⟨w.heap.size, 1, none⟩ = some (.int .i64 b) ∧ x1.cell? ⟨tb, to_ + i, none⟩ = some (.int .i64 t) := ⟨kp hb2 s0.1, kp hb2 s0.2.1, kp hb2 s0.2.2⟩
        have HQ1 := Lib.hid (HQ0.out.trans (hb2.mono HQ0.out.size))
        have ct1 := s1.2.2
        clear hb2
        refine hK1.out _ _ s1 ?_
        clear hK1 K1
        refine wpAnyR_leadI (by kernel_rfl) ?hQ ?hS0 [15] 0 _ _ (by kernel_rfl) ?_
        case hQ => intro c a d v w h; cases d <;> exact h
        case hS0 => exact s1
        iterate 1 (refine wpLeadI_read (v := ?_) _ rfl rfl (by rfl) ?_ ?_; rotate_left; (intro W hW; (try dsimp only at hW); go_simp; (try with_reducible rfl)); try simp only [Act.put, List.setIfInBounds_toArray, List.set_cons_succ, List.set_cons_zero])
        simp only [wpLeadI]
        refine ⟨by kernel_rfl, ?_⟩
        go_wp2_with fail
        refine ⟨⟨i + 1, _, by omega, by go_num, by first | rfl | trivial, HR2, HQ1⟩, ?_⟩
        simp [intOf]; omega
      rw [if_pos ⟨t0, rfl⟩] at hR
      have HR2 := Lib.hid hR
      have s0 : wr.drew.cell? ⟨w.heap.size, 0, none⟩ = some (.int .i64 a) ∧ wr.drew.cell? ⟨w.heap.size, 1, none⟩ = some (.int .i64 b) ∧ wr.drew.cell? ⟨tb, to_ + i, none⟩ = some (.int .i64 t) := ⟨y0, y1, ct⟩
      have HQ0 := Lib.hid (HX.out.trans ((dr wr).mono HX.out.size))
      clear hR HRB hd0 ht hr y0 y1 
      go_wp2_with fail
      clear ct
      refine wp_region_R (fun (W : World) => W.cell? ⟨w.heap.size, 0, none⟩ = some (.int .i64 a) ∧ W.cell? ⟨w.heap.size, 1, none⟩ = some (.int .i64 b) ∧ W.cell? ⟨tb, to_ + i, none⟩ = some (.int .i64 t)) 16 (by kernel_rfl) ?_
      refine wpAnyR_leadI (by kernel_rfl) ?hQ ?hS0 [0, 1, 2, 3, 4, 5, 6, 7, 8, 9, 10, 11, 12, 13] 2 _ _ (by kernel_rfl) ?_
      case hQ => intro c a d v w h; cases d <;> exact h
      case hS0 => exact s0
      iterate 14 (refine wpLeadI_read (v := ?_) _ rfl rfl (by rfl) ?_ ?_; rotate_left; (intro W hW; (try dsimp only at hW); go_simp; (try with_reducible rfl)); try simp only [Act.put, List.setIfInBounds_toArray, List.set_cons_succ, List.set_cons_zero])
      simp only [wpLeadI]
      refine wpAnyR_one (i := 14) rfl (by kernel_rfl) ?_
      intro K1 hK1
      go_simp
      refine (hfit _ (HB1.out.trans (HQ0.out.mono HB1.out.size))).mono ?_
      rintro e x1 ⟨rfl, hb2⟩
      have s1 : x1.cell? ⟨w.heap.size, 0, none⟩ = some (.int .i64 a) ∧ x1.cell? ⟨w.heap.size, 1, none⟩ = some (.int .i64 b) ∧ x1.cell? ⟨tb, to_ + i, none⟩ = some (.int .i64 t) := ⟨kp hb2 s0.1, kp hb2 s0.2.1, kp hb2 s0.2.2⟩
      have HQ1 := Lib.hid (HQ0.out.trans (hb2.mono HQ0.out.size))
      have ct1 := s1.2.2
      clear hb2
      refine hK1.out _ _ s1 ?_
      clear hK1 K1
      refine wpAnyR_leadI (by kernel_rfl) ?hQ ?hS0 [15] 0 _ _ (by kernel_rfl) ?_
      case hQ => intro c a d v w h; cases d <;> exact h
      case hS0 => exact s1
      iterate 1 (refine wpLeadI_read (v := ?_) _ rfl rfl (by rfl) ?_ ?_; rotate_left; (intro W hW; (try dsimp only at hW); go_simp; (try with_reducible rfl)); try simp only [Act.put, List.setIfInBounds_toArray, List.set_cons_succ, List.set_cons_zero])
      simp only [wpLeadI]
      refine ⟨by kernel_rfl, ?_⟩
      go_wp2_with fail
      refine ⟨⟨i + 1, _, by omega, by go_num, by first | rfl | trivial, HR2, HQ1⟩, ?_⟩
      simp [intOf]; omega
    · obtain rfl : i = q := by omega
      have hR := HRB.out
      rw [List.drop_eq_nil_of_le (by rw [HQ.out]; exact Nat.le_refl _)] at hR
      obtain rfl : best = R := hR
      clear HRB
      go_wp2_with fail
      go_ret
      exact ⟨rfl, HB1.out.trans (HX.out.mono HB1.out.size)⟩

/-! what they come to -/
theorem fstF_is (p : Int → Bool) : ∀ (T : List Int) (best : Int), (fstF p best T = best ∨ (fstF p best T ∈ T ∧ 0 ≤ fstF p best T ∧ p (fstF p best T) = true)) ∧ (∀ t ∈ T, 0 ≤ t → p t = true → 0 ≤ fstF p best T ∧ fstF p best T ≤ t) ∧ (0 ≤ best → 0 ≤ fstF p best T ∧ fstF p best T ≤ best)
  | [], best => ⟨Or.inl rfl, fun t h => (by cases h), fun h => ⟨h, Int.le_refl _⟩⟩
  | t :: T, best => by
    unfold fstF
    by_cases hc : 0 ≤ t ∧ p t = true ∧ (best < 0 ∨ t < best)
    · rw [if_pos hc]
      obtain ⟨h1, h2, h3⟩ := fstF_is p T t
      have h4 := h3 hc.1
      refine ⟨Or.inr ?_, fun u hu k1 k2 => ?_, fun h => ?_⟩
      · rcases h1 with h | ⟨h, k⟩
        · rw [h]; exact ⟨by simp, hc.1, hc.2.1⟩
        · exact ⟨by simp [h], k⟩
      · rcases List.mem_cons.1 hu with rfl | hu
        · exact h4
        · exact h2 u hu k1 k2
      · have := hc.2.2; omega
    · rw [if_neg hc]
      obtain ⟨h1, h2, h3⟩ := fstF_is p T best
      refine ⟨?_, fun u hu k1 k2 => ?_, h3⟩
      · rcases h1 with h | ⟨h, k⟩
        · exact Or.inl h
        · exact Or.inr ⟨by simp [h], k⟩
      · rcases List.mem_cons.1 hu with rfl | hu
        · have hb : 0 ≤ best ∧ best ≤ u := by
            rcases Int.lt_or_le best 0 with q | q
            · exact absurd ⟨k1, k2, Or.inl q⟩ hc
            · rcases Int.lt_or_le u best with q2 | q2
              · exact absurd ⟨k1, k2, Or.inr q2⟩ hc
              · exact ⟨q, q2⟩
          have := h3 hb.1; omega
        · exact h2 u hu k1 k2
theorem lstF_is (p : Int → Bool) : ∀ (T : List Int) (best : Int), (lstF p best T = best ∨ (lstF p best T ∈ T ∧ 0 ≤ lstF p best T ∧ p (lstF p best T) = true)) ∧ (∀ t ∈ T, 0 ≤ t → p t = true → t ≤ lstF p best T) ∧ best ≤ lstF p best T
  | [], best => ⟨Or.inl rfl, fun t h => (by cases h), Int.le_refl _⟩
  | t :: T, best => by
    unfold lstF
    by_cases hc : 0 ≤ t ∧ p t = true
    · rw [if_pos hc]
      by_cases hb : best < t
      · rw [if_pos hb]
        obtain ⟨h1, h2, h3⟩ := lstF_is p T t
        refine ⟨Or.inr ?_, fun u hu k1 k2 => ?_, by omega⟩
        · rcases h1 with h | ⟨h, k⟩
          · rw [h]; exact ⟨by simp, hc⟩
          · exact ⟨by simp [h], k⟩
        · rcases List.mem_cons.1 hu with rfl | hu
          · exact h3
          · exact h2 u hu k1 k2
      · rw [if_neg hb]
        obtain ⟨h1, h2, h3⟩ := lstF_is p T best
        refine ⟨?_, fun u hu k1 k2 => ?_, h3⟩
        · rcases h1 with h | ⟨h, k⟩
          · exact Or.inl h
          · exact Or.inr ⟨by simp [h], k⟩
        · rcases List.mem_cons.1 hu with rfl | hu
          · omega
          · exact h2 u hu k1 k2
    · rw [if_neg hc]
      obtain ⟨h1, h2, h3⟩ := lstF_is p T best
      refine ⟨?_, fun u hu k1 k2 => ?_, h3⟩
      · rcases h1 with h | ⟨h, k⟩
        · exact Or.inl h
        · exact Or.inr ⟨by simp [h], k⟩
      · rcases List.mem_cons.1 hu with rfl | hu
        · exact absurd ⟨k1, k2⟩ hc
        · exact h2 u hu k1 k2
/-- where something begins to fit is where the window begins, or a step -/
theorem cand_low {l : List StepD} {n d a b x : Int} (hd : 0 ≤ d) (h : FitP (valF 0 l) n d a b x) (hl : ¬ FitP (valF 0 l) n d a b (x - 1)) : x = a ∨ ∃ s ∈ l, s.at_ = x := by
  obtain ⟨h1, h2, h3⟩ := h
  rcases Int.lt_or_eq_of_le h1 with q | q
  · refine Or.inr ?_
    by_cases hs : ∃ s ∈ l, s.at_ = x
    · exact hs
    · exfalso
      refine hl ⟨by omega, by omega, fun u k1 k2 => ?_⟩
      rcases Int.lt_or_le u x with c | c
      · have e := val_const (d := 0) (t := x) (fun s hs' e => hs ⟨s, hs', e⟩)
        have e2 : u = x - 1 := by omega
        rw [e2, ← e]
        exact h3 x (Int.le_refl _) (by omega)
      · exact h3 u c (by omega)
  · exact Or.inl q.symm
theorem cand_up {l : List StepD} {n d a b x : Int} (hd : 0 ≤ d) (h : FitP (valF 0 l) n d a b x) (hl : ¬ FitP (valF 0 l) n d a b (x + 1)) : x = b - d ∨ ∃ s ∈ l, s.at_ = x + d := by
  obtain ⟨h1, h2, h3⟩ := h
  rcases Int.lt_or_eq_of_le h2 with q | q
  · refine Or.inr ?_
    by_cases hs : ∃ s ∈ l, s.at_ = x + d
    · exact hs
    · exfalso
      refine hl ⟨by omega, by omega, fun u k1 k2 => ?_⟩
      rcases Int.lt_or_le u (x + d) with c | c
      · exact h3 u (by omega) c
      · have e := val_const (d := 0) (t := x + d) (fun s hs' e => hs ⟨s, hs', e⟩)
        have e2 : u = x + d := by omega
        rw [e2, e]
        exact h3 (x + d - 1) (by omega) (by omega)
  · exact Or.inl (by omega)
theorem fir_is {l : List StepD} {a b n d : Int} (h : ReqY l a b n d) : (fitL l n d a b = [] ∧ firN l a b n d = -1) ∨ (fitL l n d a b ≠ [] ∧ firN l a b n d = fstV (fitL l n d a b) ∧ 0 ≤ firN l a b n d) := by
  have hy := fitY h
  have hiff := fun t => fitB_iff h.prof (n := n) (t := t) h.hd.1 h.ha.1 h.hb.2
  obtain ⟨h1, h2, _⟩ := fstF_is (fitB l n d a b) (timD l a b d) (-1)
  by_cases hR : fitL l n d a b = []
  · refine Or.inl ⟨hR, ?_⟩
    rcases h1 with e | ⟨_, _, e⟩
    · exact e
    · exact absurd ((hiff _).1 e) (hy.nil hR _)
  · obtain ⟨f1, f2⟩ := hy.fst hR
    have hx0 : 0 ≤ fstV (fitL l n d a b) := by have := f1.1; have := h.ha.1; omega
    have hmem : fstV (fitL l n d a b) ∈ timD l a b d := by
      rcases cand_low h.hd.1 f1 (fun k => by have := f2 _ k; omega) with e | ⟨s, hs, e⟩
      · exact tim_mem.2 (Or.inl e)
      · exact tim_mem.2 (Or.inr (Or.inr ⟨s, hs, Or.inl e.symm⟩))
    obtain ⟨k1, k2⟩ := h2 _ hmem hx0 ((hiff _).2 f1)
    refine Or.inr ⟨hR, ?_, k1⟩
    have k3 : firN l a b n d ≤ fstV (fitL l n d a b) := k2
    rcases h1 with e | ⟨_, _, e⟩
    · have : 0 ≤ fstF (fitB l n d a b) (-1) (timD l a b d) := k1
      omega
    · have := f2 _ ((hiff _).1 e)
      have : fstV (fitL l n d a b) ≤ firN l a b n d := this
      omega
theorem las_is {l : List StepD} {a b n d : Int} (h : ReqY l a b n d) : (fitL l n d a b = [] ∧ lasN l a b n d = -1) ∨ (fitL l n d a b ≠ [] ∧ lasN l a b n d = lstV (fitL l n d a b)) := by
  have hy := fitY h
  have hiff := fun t => fitB_iff h.prof (n := n) (t := t) h.hd.1 h.ha.1 h.hb.2
  obtain ⟨h1, h2, _⟩ := lstF_is (fitB l n d a b) (timD l a b d) (-1)
  by_cases hR : fitL l n d a b = []
  · refine Or.inl ⟨hR, ?_⟩
    rcases h1 with e | ⟨_, _, e⟩
    · exact e
    · exact absurd ((hiff _).1 e) (hy.nil hR _)
  · obtain ⟨f1, f2⟩ := hy.lst hR
    have hx0 : 0 ≤ lstV (fitL l n d a b) := by have := f1.1; have := h.ha.1; omega
    have hmem : lstV (fitL l n d a b) ∈ timD l a b d := by
      rcases cand_up h.hd.1 f1 (fun k => by have := f2 _ k; omega) with e | ⟨s, hs, e⟩
      · exact tim_mem.2 (Or.inr (Or.inl e))
      · exact tim_mem.2 (Or.inr (Or.inr ⟨s, hs, Or.inr (Or.inl (by omega))⟩))
    have k1 : lstV (fitL l n d a b) ≤ lasN l a b n d := h2 _ hmem hx0 ((hiff _).2 f1)
    refine Or.inr ⟨hR, ?_⟩
    rcases h1 with e | ⟨_, _, e⟩
    · have e' : lasN l a b n d = -1 := e
      omega
    · have : lasN l a b n d ≤ lstV (fitL l n d a b) := f2 _ ((hiff _).1 e)
      omega
end Go.Proofs.Ytldmkbmkjdnaaaa.Ft

