/- Layer 10: the document's Widest. -/
import Derived.Test.YtldmkbmkjdnaaaaFitK
namespace Go.Proofs.Ytldmkbmkjdnaaaa.Ft
open Go.RowKit Go.Shelf
open Stp
open Dag (Ints Sl Own1 OwnI ints ints_len ints_app)
set_option linter.unusedVariables false
set_option maxRecDepth 100000

def widF (p : Int → Bool) (g : Int → Int) : Int → List Int → Int
  | m, [] => m
  | m, t :: r => widF p g (if 0 ≤ t ∧ p t = true then (if m < g t then g t else m) else m) r
def widN (l : List StepD) (a b d : Int) : Int := widF (fitB l 1 d a b) (fun t => minV l t (t + d)) 0 (timD l a b d)
theorem fitB_at {l : List StepD} {n d a b t : Int} (h : fitB l n d a b t = true) : a ≤ t ∧ t + d ≤ b := by
  unfold fitB at h
  simp only [Bool.and_eq_true, decide_eq_true_eq] at h
  exact ⟨h.1, h.2.1⟩
set_option maxHeartbeats 3200000 in
theorem rwid_any (l : List StepD) (hp : Prof l) (a b d : Int) (hd1 : d ≠ 0) (ha : 0 ≤ a ∧ a ≤ 1099511627775) (hb : 0 ≤ b ∧ b ≤ 1099511627775) (hd : 0 ≤ d ∧ d ≤ 1099511627775) (A : Option Addr) (m c : Nat) (hm : l.length = m) (w : World) (h : Stp w A c l) :
    Calls Try.prog 28 #[.slice A m c, .agg #[.int .i64 a, .int .i64 b], .int .i64 d] w fun e w' => e = .returned (.int .i64 (widN l a b d)) ∧ Below w.heap.size w w' := by
  have hlb : ∀ s ∈ l, 0 ≤ s.at_ ∧ s.at_ ≤ 1099511627775 := fun s hs => (hp.ok s hs).1
  have HT := Lib.hid fun W (hW : Below w.heap.size w W) => rtim_any l hlb a b d ha hb hd A m c hm (by have := hp.len; omega) W (h.below hW)
  have HF := Lib.hid fun t (ht : t ∈ timD l a b d) W (hW : Below w.heap.size w W) => rfits_any l hp a b 1 d t hb.2 ha.1 ⟨hd.1, by omega⟩ (tim_bd hlb ha hb hd ht) A m c hm W (h.below hW)
  have HE := Lib.hid fun t W (hW : Below w.heap.size w W) => rends_any l t (t + d) A m c hm W (h.below hW)
  have HP := Lib.hid hp
  unfold RF at HF
  unfold RetT at HT
  obtain ⟨x0, x1⟩ := new2 w (.int .i64 a) (.int .i64 b) 28
  obtain ⟨R, hR⟩ : ∃ R, widN l a b d = R := ⟨_, rfl⟩
  rw [hR]
  unfold widN at hR
  obtain ⟨T, hT⟩ : ∃ T, timD l a b d = T := ⟨_, rfl⟩
  obtain ⟨q, hq⟩ : ∃ q, T.length = q := ⟨_, rfl⟩
  have hql : q ≤ 100000 := by
    rw [← hq, ← hT]; unfold timD
    have := hp.len
    simp only [List.length_cons, cand_len]; omega
  rw [hT] at HF HT hR
  rw [hq] at HT
  have HR := Lib.hid hR; have HQ := Lib.hid hq
  have HTB : Hid (∀ t ∈ T, -10000000000000 ≤ t ∧ t ≤ 10000000000000) := Lib.hid fun t ht => tim_bd hlb ha hb hd (by rw [hT]; exact ht)
  clear h hm hp hlb hT hq hR
  go_enter Try.func28, Try.ntmps28
  go_wp2_with fail
  refine (HT.out _ (al w _)).mono ?_
  rintro e w1 ⟨A1, c1, rfl, hi, hb1⟩
  have HI := Lib.hid hi; have HB1 := Lib.hid (blw (al w (.cells #[.int .i64 a, .int .i64 b] 28)) hb1)
  have y0 := kp hb1 x0; have y1 := kp hb1 x1
  have Y := Lib.hid (And.intro y0 y1)
  clear hi hb1 x0 x1 y0 y1
  go_wp2_with fail
  go_loopw [7, 9] (fun vb vi wr => ∃ (i : Nat) (best : Int), i ≤ q ∧ vi = .int .i64 i ∧ vb = .int .i64 best ∧ Hid (widF (fitB l 1 d a b) (fun t => minV l t (t + d)) best (T.drop i) = R) ∧ Hid (Below w1.heap.size w1 wr)) (fun _ vi _ => q - (intOf vi).toNat)
  case atStart => exact ⟨0, 0, Nat.zero_le _, rfl, rfl, HR, Lib.hid (Below.refl _ _)⟩
  case round =>
    clear HR
    obtain ⟨i, best, hiq, rfl, rfl, HRB, HX⟩ := hrel
    by_cases hlt : i < q
    · obtain ⟨tb, to_, t, eT, ht, ct⟩ := (Ints.below HI.out HX.out).at_ (k := i) (by rw [HQ.out]; exact hlt)
      subst eT
      have hd0 : T.drop i = t :: T.drop (i + 1) := by rw [List.drop_eq_getElem_cons (by rw [HQ.out]; exact hlt), (List.getElem?_eq_some_iff.1 ht).2]
      have hR := HRB.out
      rw [hd0] at hR
      unfold widF at hR
      have htm := List.mem_of_getElem? ht
      have hfit := HF.out t htm
      obtain ⟨r, hr⟩ : ∃ r, fitB l 1 d a b t = r := ⟨_, rfl⟩
      rw [hr] at hR hfit
      have y0 := kp HX.out Y.out.1; have y1 := kp HX.out Y.out.2
      by_cases t0 : 0 ≤ t
      case neg =>
        rw [if_neg (by rintro ⟨h, _⟩; omega)] at hR
        have HR2 := Lib.hid hR
        have g0 : decide (0 ≤ t) = false := decide_eq_false t0
        have s0 : wr.drew.cell? ⟨w.heap.size, 0, none⟩ = some (.int .i64 a) ∧ wr.drew.cell? ⟨w.heap.size, 1, none⟩ = some (.int .i64 b) ∧ wr.drew.cell? ⟨tb, to_ + i, none⟩ = some (.int .i64 t) := ⟨y0, y1, ct⟩
        have HQ0 := Lib.hid (HX.out.trans ((dr wr).mono HX.out.size))
        clear hR HRB hd0 ht hr y0 y1 hfit
        go_wp2_with fail
        clear ct
        refine wp_region_R (fun (W : World) => W.cell? ⟨w.heap.size, 0, none⟩ = some (.int .i64 a) ∧ W.cell? ⟨w.heap.size, 1, none⟩ = some (.int .i64 b) ∧ W.cell? ⟨tb, to_ + i, none⟩ = some (.int .i64 t)) 15 (by kernel_rfl) ?_
        refine wpAnyR_leadI (by kernel_rfl) ?hQ ?hS0 [0, 1, 2, 3, 4, 5, 6, 7, 8, 9, 10, 11, 12, 13, 14] 0 _ _ (by kernel_rfl) ?_
        case hQ => intro c a d v w h; cases d <;> exact h
        case hS0 => exact s0
        iterate 6 (refine wpLeadI_read (v := ?_) _ rfl rfl (by rfl) ?_ ?_; rotate_left; (intro W hW; (try dsimp only at hW); go_simp; (try with_reducible rfl)); try simp only [Act.put, List.setIfInBounds_toArray, List.set_cons_succ, List.set_cons_zero])
        iterate 8 (refine wpLeadI_skip _ rfl rfl (by kernel_rfl) ?_; try simp only [Act.put, List.setIfInBounds_toArray, List.set_cons_succ, List.set_cons_zero])
        iterate 1 (refine wpLeadI_read (v := ?_) _ rfl rfl (by rfl) ?_ ?_; rotate_left; (intro W hW; (try dsimp only at hW); go_simp; (try with_reducible rfl)); try simp only [Act.put, List.setIfInBounds_toArray, List.set_cons_succ, List.set_cons_zero])
        simp only [wpLeadI]
        refine ⟨by kernel_rfl, ?_⟩
        go_wp2_with fail
        refine ⟨⟨i + 1, _, by omega, by go_num, by first | rfl | trivial, HR2, HQ0⟩, ?_⟩
        simp [intOf]; omega
      have g0 : decide (0 ≤ t) = true := decide_eq_true t0
      cases r
      case false =>
        rw [if_neg (by rintro ⟨_, h⟩; cases h)] at hR
        have HR2 := Lib.hid hR
        have s0 : wr.drew.cell? ⟨w.heap.size, 0, none⟩ = some (.int .i64 a) ∧ wr.drew.cell? ⟨w.heap.size, 1, none⟩ = some (.int .i64 b) ∧ wr.drew.cell? ⟨tb, to_ + i, none⟩ = some (.int .i64 t) := ⟨y0, y1, ct⟩
        have HQ0 := Lib.hid (HX.out.trans ((dr wr).mono HX.out.size))
        clear hR HRB hd0 ht hr y0 y1 
        go_wp2_with fail
        clear ct
        refine wp_region_R (fun (W : World) => W.cell? ⟨w.heap.size, 0, none⟩ = some (.int .i64 a) ∧ W.cell? ⟨w.heap.size, 1, none⟩ = some (.int .i64 b) ∧ W.cell? ⟨tb, to_ + i, none⟩ = some (.int .i64 t)) 15 (by kernel_rfl) ?_
        refine wpAnyR_leadI (by kernel_rfl) ?hQ ?hS0 [0, 1, 2, 3, 4, 5, 6, 7, 8, 9, 10, 11, 12] 2 _ _ (by kernel_rfl) ?_
        case hQ => intro c a d v w h; cases d <;> exact h
        case hS0 => exact s0
        iterate 13 (refine wpLeadI_read (v := ?_) _ rfl rfl (by rfl) ?_ ?_; rotate_left; (intro W hW; (try dsimp only at hW); go_simp; (try with_reducible rfl)); try simp only [Act.put, List.setIfInBounds_toArray, List.set_cons_succ, List.set_cons_zero])
        simp only [wpLeadI]
        refine wpAnyR_one (i := 13) rfl (by kernel_rfl) ?_
        intro K1 hK1
        go_simp
        refine (hfit _ (HB1.out.trans (HQ0.out.mono HB1.out.size))).mono ?_
        rintro e x1 ⟨rfl, hb2⟩
        have s1 : x1.cell? ⟨w.heap.size, 0, none⟩ = some (.int .i64 a) ∧ x1.cell? ⟨w.heap.size, 1, none⟩ = some (.int .i64 b) ∧ x1.cell? ⟨tb, to_ + i, none⟩ = some (.int .i64 t) := ⟨kp hb2 s0.1, kp hb2 s0.2.1, kp hb2 s0.2.2⟩
        have HQ1 := Lib.hid (HQ0.out.trans (hb2.mono HQ0.out.size))
        have ct1 := s1.2.2
        clear hb2
        refine hK1.out _ _ s1 ?_
        clear hK1 K1
        refine wpAnyR_leadI (by kernel_rfl) ?hQ ?hS0 [14] 0 _ _ (by kernel_rfl) ?_
        case hQ => intro c a d v w h; cases d <;> exact h
        case hS0 => exact s1
        iterate 1 (refine wpLeadI_read (v := ?_) _ rfl rfl (by rfl) ?_ ?_; rotate_left; (intro W hW; (try dsimp only at hW); go_simp; (try with_reducible rfl)); try simp only [Act.put, List.setIfInBounds_toArray, List.set_cons_succ, List.set_cons_zero])
        simp only [wpLeadI]
        refine ⟨by kernel_rfl, ?_⟩
        go_wp2_with fail
        refine ⟨⟨i + 1, _, by omega, by go_num, by first | rfl | trivial, HR2, HQ1⟩, ?_⟩
        simp [intOf]; omega
      rw [if_pos ⟨t0, rfl⟩] at hR
      have HR2 := Lib.hid hR
      have hfb := (fitB_at hr)
      have hE : endE l t (t + d) = 0 := end_ok HP.out (by omega) (by omega) (by omega)
      have hend := HE.out t
      rw [hE] at hend
      have HEN := Lib.hid hend
      have w1' : IntKind.i64.wrap (t + d) = t + d := IntWalk.i64_in _ (by omega)
      obtain ⟨gv, hgv⟩ : ∃ x, minV l t (t + d) = x := ⟨_, rfl⟩
      obtain ⟨gx, hgx⟩ : ∃ x, maxV l t (t + d) = x := ⟨_, rfl⟩
      rw [hgv, hgx] at HEN
      rw [hgv] at HR2
      clear hend hE hgv hgx hfb
      have s0 : wr.drew.cell? ⟨w.heap.size, 0, none⟩ = some (.int .i64 a) ∧ wr.drew.cell? ⟨w.heap.size, 1, none⟩ = some (.int .i64 b) ∧ wr.drew.cell? ⟨tb, to_ + i, none⟩ = some (.int .i64 t) := ⟨y0, y1, ct⟩
      have HQ0 := Lib.hid (HX.out.trans ((dr wr).mono HX.out.size))
      clear hR HRB hd0 ht hr y0 y1 
      go_wp2_with fail
      clear ct
      refine wp_region_R (fun (W : World) => W.cell? ⟨w.heap.size, 0, none⟩ = some (.int .i64 a) ∧ W.cell? ⟨w.heap.size, 1, none⟩ = some (.int .i64 b) ∧ W.cell? ⟨tb, to_ + i, none⟩ = some (.int .i64 t)) 15 (by kernel_rfl) ?_
      refine wpAnyR_leadI (by kernel_rfl) ?hQ ?hS0 [0, 1, 2, 3, 4, 5, 6, 7, 8, 9, 10, 11, 12] 2 _ _ (by kernel_rfl) ?_
      case hQ => intro c a d v w h; cases d <;> exact h
      case hS0 => exact s0
      iterate 13 (refine wpLeadI_read (v := ?_) _ rfl rfl (by rfl) ?_ ?_; rotate_left; (intro W hW; (try dsimp only at hW); go_simp; (try with_reducible rfl)); try simp only [Act.put, List.setIfInBounds_toArray, List.set_cons_succ, List.set_cons_zero])
      simp only [wpLeadI]
      refine wpAnyR_one (i := 13) rfl (by kernel_rfl) ?_
      intro K1 hK1
      go_simp
      refine (hfit _ (HB1.out.trans (HQ0.out.mono HB1.out.size))).mono ?_
      rintro e x1 ⟨rfl, hb2⟩
      have s1 : x1.cell? ⟨w.heap.size, 0, none⟩ = some (.int .i64 a) ∧ x1.cell? ⟨w.heap.size, 1, none⟩ = some (.int .i64 b) ∧ x1.cell? ⟨tb, to_ + i, none⟩ = some (.int .i64 t) := ⟨kp hb2 s0.1, kp hb2 s0.2.1, kp hb2 s0.2.2⟩
      have HQ1 := Lib.hid (HQ0.out.trans (hb2.mono HQ0.out.size))
      have ct1 := s1.2.2
      clear hb2
      refine hK1.out _ _ s1 ?_
      clear hK1 K1
      refine wpAnyR_leadI (by kernel_rfl) ?hQ ?hS0 [14] 0 _ _ (by kernel_rfl) ?_
      case hQ => intro c a d v w h; cases d <;> exact h
      case hS0 => exact s1
      iterate 1 (refine wpLeadI_read (v := ?_) _ rfl rfl (by rfl) ?_ ?_; rotate_left; (intro W hW; (try dsimp only at hW); go_simp; (try with_reducible rfl)); try simp only [Act.put, List.setIfInBounds_toArray, List.set_cons_succ, List.set_cons_zero])
      simp only [wpLeadI]
      refine ⟨by kernel_rfl, ?_⟩
      go_wp2_with fail
      have r0 : x1.drew.cell? ⟨tb, to_ + i, none⟩ = some (.int .i64 t) := ct1
      have HQ2 := Lib.hid (HQ1.out.trans ((dr x1).mono HQ1.out.size))
      clear ct1 s1 s0
      go_region_held3 (fun (W : World) => W.cell? ⟨tb, to_ + i, none⟩ = some (.int .i64 t)) (first | exact r1 | exact r0) (first
        | (go_at_call 48; refine (HEN.out _ (HB1.out.trans (HQ2.out.mono HB1.out.size))).mono ?_; rintro e x2 ⟨rfl, hb3⟩; have r1 : x2.cell? ⟨tb, to_ + i, none⟩ = some (.int .i64 t) := kp hb3 r0; have HQ3 := Lib.hid (HQ2.out.trans (hb3.mono HQ2.out.size)); clear hb3))
      go_wp2_with fail
      refine ⟨⟨i + 1, _, by omega, by go_num, by first | rfl | trivial, HR2, HQ3⟩, ?_⟩
      simp [intOf]; omega
    · obtain rfl : i = q := by omega
      have hR := HRB.out
      rw [List.drop_eq_nil_of_le (by rw [HQ.out]; exact Nat.le_refl _)] at hR
      obtain rfl : best = R := hR
      clear HRB
      go_wp2_with fail
      go_ret
      exact ⟨rfl, HB1.out.trans (HX.out.mono HB1.out.size)⟩

theorem widF_is (p : Int → Bool) (g : Int → Int) : ∀ (T : List Int) (m : Int), (widF p g m T = m ∨ ∃ t ∈ T, 0 ≤ t ∧ p t = true ∧ widF p g m T = g t) ∧ (∀ t ∈ T, 0 ≤ t → p t = true → g t ≤ widF p g m T) ∧ m ≤ widF p g m T
  | [], m => ⟨Or.inl rfl, fun t h => (by cases h), Int.le_refl _⟩
  | t :: T, m => by
    unfold widF
    by_cases hc : 0 ≤ t ∧ p t = true
    · rw [if_pos hc]
      by_cases hb : m < g t
      · rw [if_pos hb]
        obtain ⟨h1, h2, h3⟩ := widF_is p g T (g t)
        refine ⟨Or.inr ?_, fun u hu k1 k2 => ?_, by omega⟩
        · rcases h1 with h | ⟨u, hu, k⟩
          · exact ⟨t, by simp, hc.1, hc.2, h⟩
          · exact ⟨u, by simp [hu], k⟩
        · rcases List.mem_cons.1 hu with rfl | hu
          · exact h3
          · exact h2 u hu k1 k2
      · rw [if_neg hb]
        obtain ⟨h1, h2, h3⟩ := widF_is p g T m
        refine ⟨?_, fun u hu k1 k2 => ?_, h3⟩
        · rcases h1 with h | ⟨u, hu, k⟩
          · exact Or.inl h
          · exact Or.inr ⟨u, by simp [hu], k⟩
        · rcases List.mem_cons.1 hu with rfl | hu
          · omega
          · exact h2 u hu k1 k2
    · rw [if_neg hc]
      obtain ⟨h1, h2, h3⟩ := widF_is p g T m
      refine ⟨?_, fun u hu k1 k2 => ?_, h3⟩
      · rcases h1 with h | ⟨u, hu, k⟩
        · exact Or.inl h
        · exact Or.inr ⟨u, by simp [hu], k⟩
      · rcases List.mem_cons.1 hu with rfl | hu
        · exact absurd ⟨k1, k2⟩ hc
        · exact h2 u hu k1 k2
/-- the most nodes, and when -/
theorem wid_is {l : List StepD} {a b d : Int} {k : Nat} (h : ReqY l a b 1 d) (hd0 : d ≠ 0) (hr : d ≤ b - a) (hk : WidY l a b d k) : widN l a b d = k ∧ fstE (fitL l (k : Int) d a b) = 0 ∧ (k = 0 → fstV (fitL l (k : Int) d a b) = a) := by
  have hd := h.hd
  have ha := h.ha
  have hb := h.hb
  have hin := fun (n : Int) (hn : 0 ≤ n) t => fit_in h.prof (n := n) (d := d) (a := a) (b := b) hn hd.1 ha.1 hb.2 t
  have hbd := fun u (hu : 0 ≤ u) => h.prof.bd hu
  have hz : FitP (valF 0 l) 0 d a b a := ⟨Int.le_refl _, by omega, fun u k1 k2 => (hbd u (by omega)).1⟩
  have h0 : fitL l (0 : Int) d a b ≠ [] := fun e => by
    have := (hin 0 (Int.le_refl _) a).2 hz
    rw [e] at this
    exact inW_nil this
  obtain ⟨w1, w2, w3⟩ := widF_is (fitB l 1 d a b) (fun t => minV l t (t + d)) (timD l a b d) 0
  have hiff := fun t => fitB_iff h.prof (n := 1) (t := t) hd.1 ha.1 hb.2
  -- what fits with one more
  have up : ∀ t, fitB l 1 d a b t = true → minV l t (t + d) ≤ k := fun t ht => by
    obtain ⟨e1, e2, e3⟩ := (hiff t).1 ht
    have hm := (ext_is (end_ok h.prof (a := t) (b := t + d) (by omega) (by omega) (by omega))).1
    obtain ⟨u, u1, u2, u3⟩ := hm.2
    have hle := (hbd u (by omega)).2
    rcases Int.lt_or_le (k : Int) (minV l t (t + d)) with c | c
    · exfalso
      rcases hk.none with e | e
      · have : valF 0 l u = minV l t (t + d) := u3
        omega
      · have hf : FitP (valF 0 l) ((k : Int) + 1) d a b t := ⟨e1, e2, fun v k1 k2 => by have := hm.1 v k1 k2; omega⟩
        have := (hin _ (by omega) t).2 hf
        rw [e] at this
        exact inW_nil this
    · exact c
  have hupper : widN l a b d ≤ k := by
    rcases w1 with e | ⟨t, _, _, ht, e⟩
    · have : widN l a b d = 0 := e
      omega
    · have : widN l a b d = minV l t (t + d) := e
      have := up t ht
      omega
  have hge : 0 ≤ widN l a b d := w3
  by_cases hk0 : k = 0
  · subst hk0
    refine ⟨by omega, fst_zero.2 h0, fun _ => ?_⟩
    have hs : SepW (-1) (fitL l (0 : Int) d a b) := fit_sep h.prof (Int.le_refl _) hd.1
    have hi0 := hin 0 (Int.le_refl _)
    show fstV (fitL l (0 : Int) d a b) = a
    generalize fitL l (0 : Int) d a b = R at hs hi0 h0 ⊢
    cases R with
    | nil => exact absurd rfl h0
    | cons x R =>
      have k1 := sep_fst hs ((hi0 a).2 hz)
      have k2 := (hi0 x.at_).1 (inW_cons.2 (Or.inl ⟨Int.le_refl _, hs.2.1⟩))
      have := k2.1
      show x.at_ = a
      omega
  · have hR : fitL l (k : Int) d a b ≠ [] := by
      rcases hk.some with e | e
      · exact absurd e hk0
      · exact e
    have hkk := hk.le
    have hy := fitY (show ReqY l a b (k : Int) d from ⟨h.prof, ha, hb, ⟨by omega, by omega⟩, hd⟩)
    obtain ⟨f1, f2⟩ := hy.fst hR
    refine ⟨?_, fst_zero.2 hR, fun e => absurd e hk0⟩
    have hmem : fstV (fitL l (k : Int) d a b) ∈ timD l a b d := by
      rcases cand_low hd.1 f1 (fun q => by have := f2 _ q; omega) with e | ⟨s, hs, e⟩
      · exact tim_mem.2 (Or.inl e)
      · exact tim_mem.2 (Or.inr (Or.inr ⟨s, hs, Or.inl e.symm⟩))
    have hone : fitB l 1 d a b (fstV (fitL l (k : Int) d a b)) = true := (hiff _).2 (f1.mono (by omega) (Int.le_refl _) (Int.le_refl _) (Int.le_refl _))
    have h3 : minV l (fstV (fitL l (k : Int) d a b)) (fstV (fitL l (k : Int) d a b) + d) ≤ widN l a b d := w2 _ hmem (by have := f1.1; omega) hone
    have h4 : (k : Int) ≤ minV l (fstV (fitL l (k : Int) d a b)) (fstV (fitL l (k : Int) d a b) + d) := by
      have := f1.1; have := f1.2.1
      obtain ⟨_, u, u1, u2, u3⟩ := (ext_is (end_ok h.prof (a := fstV (fitL l (k : Int) d a b)) (b := fstV (fitL l (k : Int) d a b) + d) (by omega) (by omega) (by omega))).1
      have := f1.2.2 u u1 u2
      omega
    omega
end Go.Proofs.Ytldmkbmkjdnaaaa.Ft

