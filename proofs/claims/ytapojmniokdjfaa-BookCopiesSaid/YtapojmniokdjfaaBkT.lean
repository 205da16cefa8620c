/- Layer 11: Take. -/
import Derived.Test.YtapojmniokdjfaaBkA
import Derived.Test.YtapojmniokdjfaaBkMem
import Derived.Test.YtapojmniokdjfaaFitReg
namespace Go.Proofs.Ytapojmniokdjfaa.Bk
open Go.RowKit Go.Shelf
open Stp (blw al dr drN kp Stp OwnS RetP RetS clone_any add_any addE addL inW)
open Ft (wp_region_R wpAnyR_leadI wpLeadI wpLeadI_read wpLeadI_skip wpAnyR_one wpAnyR_tail)
set_option linter.unusedVariables false
set_option maxRecDepth 100000

/-- what Take leaves -/
def RetT (g m : Nat) (N e0 : Int) (F : List StepD) (L : List SlotD) (w : World) (e : Ending) (w' : World) : Prop := e = .returned (.int .i64 e0) ∧ BookM w' g m N F L ∧ Wr (GB g m) w w'
set_option maxHeartbeats 1600000 in
theorem take_any (s : SlotD) (hw : (Lit.int .i64 s.id).wf = true) (w : World) (g m : Nat) (N : Int) (F : List StepD) (L : List SlotD) (T : List Int) (k : Nat) (hI : BkI N F L T k) (hk : k ≤ 100) (h : BookM w g m N F L) :
    Calls Try.prog 16 #[.pointer (some ⟨g, 0, none⟩), .agg #[.int .i64 s.id, .int .i64 s.fm, .int .i64 s.to, .int .i64 s.nd]] w (RetT g m N (takeE N F L s) (takeF N F L s) (takeL N F L s) w) := by
  have HV := Lib.hid fun (W : World) (hW : BookM W g m N F L) => valid_any s W g m N F L hW
  obtain ⟨e0, he0⟩ : ∃ e0, takeE N F L s = e0 := ⟨_, rfl⟩
  obtain ⟨R, hR⟩ : ∃ R, takeF N F L s = R := ⟨_, rfl⟩
  obtain ⟨M, hM⟩ : ∃ M, takeL N F L s = M := ⟨_, rfl⟩
  rw [he0, hR, hM]
  unfold takeF at hR
  unfold takeL at hM
  rw [he0] at hR hM
  unfold takeE at he0
  have HB0 := Lib.hid (al w (.cells #[.int .i64 s.id, .int .i64 s.fm, .int .i64 s.to, .int .i64 s.nd] 32))
  have HM := Lib.hid (h.below HB0.out)
  have HC := Lib.hid (C4.new w s 32)
  have HI := Lib.hid hI
  have HH := Lib.hid h
  clear h hI
  cases hv : slotB N s
  · rw [hv] at he0 HV
    rw [if_neg (by decide)] at he0
    subst he0
    rw [if_neg (by decide)] at hR hM
    subst hR hM
    clear hv
    go_enter Try.func16, Try.ntmps16
    go_wp2_with fail
    refine (HV.out _ HM.out).mono ?_
    rintro e w1 ⟨rfl, hb1⟩
    have HB1 := Lib.hid (blw HB0.out hb1)
    clear hb1
    go_wp2
    go_ret
    exact ⟨rfl, HH.out.below HB1.out, Wr.of_below HB1.out⟩
  · rw [hv] at he0 HV
    rw [if_pos rfl] at he0
    have HSO := Lib.hid (slotB_iff.1 hv)
    clear hv
    cases hf : fndS s.id L with
    | some u =>
      rw [hf] at he0
      rw [if_pos (by rfl)] at he0
      subst he0
      rw [if_neg (by decide)] at hR hM
      subst hR hM
      go_enter Try.func16, Try.ntmps16
      go_wp2_with fail
      refine (HV.out _ HM.out).mono ?_
      rintro e w1 ⟨rfl, hb1⟩
      have HM1 := Lib.hid (HM.out.below hb1)
      have HC1 := Lib.hid (HC.out.below hb1)
      have HB1 := Lib.hid (blw HB0.out hb1)
      clear hb1
      go_wp2_with fail
      have HMF := Lib.hid fun (W : World) (hW : Below w1.heap.size w1 W) => (HM1.out.below hW).map.look hw
      have HCF := Lib.hid fun (W : World) (hW : Below w1.heap.size w1 W) => HC1.out.below hW
      have HGF := Lib.hid fun (W : World) (hW : Below w1.heap.size w1 W) => (HM1.out.below hW).cells
      refine wp_region_R (Below w1.heap.size w1) 12 (by kernel_rfl) ?_
      refine wpAnyR_leadI (by kernel_rfl) ?hQ ?hS0 [0, 1, 2, 3, 4, 5, 6, 7, 8, 9] 3 _ _ (by kernel_rfl) ?_
      case hQ => intro c a d v w h; cases d <;> exact h
      case hS0 => exact dr w1
      iterate 10 (refine wpLeadI_read (v := ?_) _ rfl rfl (by rfl) ?_ ?_; rotate_left; (intro W hW; have hA := (HMF.out W hW).1 u hf; obtain ⟨hB0, hB1, hB2, hB3⟩ := HCF.out W hW; obtain ⟨A, c, hG, hG0, hG1, hG2, hG3⟩ := HGF.out W hW; go_simp; (try with_reducible rfl)); try simp only [Act.put, List.setIfInBounds_toArray, List.set_cons_succ, List.set_cons_zero])
      simp only [wpLeadI]
      refine wpAnyR_one (i := 10) rfl (by kernel_rfl) ?_
      intro K1 hK1
      go_simp
      refine hK1.out _ _ (blw (dr w1) (al _ _)) ?_
      clear hK1 K1
      try simp only [Act.put, List.setIfInBounds_toArray, List.set_cons_succ, List.set_cons_zero]
      refine wpAnyR_one (i := 11) rfl (by kernel_rfl) ?_
      intro K1 hK1
      go_simp
      refine hK1.out _ _ (blw (al _ _) (dr _)) ?_
      clear hK1 K1
      try simp only [Act.put, List.setIfInBounds_toArray, List.set_cons_succ, List.set_cons_zero]
      refine wpAnyR_one (i := 12) rfl (by kernel_rfl) ?_
      intro K1 hK1
      go_simp
      refine hK1.out _ _ (blw (al _ _) (dr _)) ?_
      clear hK1 K1
      refine ⟨by kernel_rfl, ?_⟩
      have HX2 := Lib.hid (blw (al w1 (.cells #[.int .i64 u.id, .int .i64 u.fm, .int .i64 u.to, .int .i64 u.nd] 32)) (dr _))
      go_wp2
      go_ret
      exact ⟨rfl, HH.out.below (blw HB1.out HX2.out), Wr.of_below (blw HB1.out HX2.out)⟩
    | none =>
      rw [hf] at he0
      rw [if_neg (by simp)] at he0
      have HN := Lib.hid hf
      have HRM := Lib.hid (And.intro hR hM)
      have HE := Lib.hid he0
      clear hR hM he0
      have hll : (L.length : Int) ≤ 100 := by have := HI.out.ll; omega
      have h9 : ((L.length : Int) == 9000) = false := by rw [beq_eq_false_iff_ne]; omega
      have HLF := Lib.hid fun (W : World) (hW : BookM W g m N F L) (ty : TypeId) => hW.map.len ty
      have HFL := Lib.hid (HI.out.len)
      have hnb := HSO.out.nd
      have hNb := HI.out.n
      have hwn : IntKind.i64.wrap (-s.nd) = -s.nd := IntWalk.i64_in _ (by omega)
      go_enter Try.func16, Try.ntmps16
      go_wp2_with fail
      refine (HV.out _ HM.out).mono ?_
      rintro e w1 ⟨rfl, hb1⟩
      have HM1 := Lib.hid (HM.out.below hb1)
      have HC1 := Lib.hid (HC.out.below hb1)
      have HB1 := Lib.hid (blw HB0.out hb1)
      clear hb1
      go_wp2_with fail
      have HMF := Lib.hid fun (W : World) (hW : Below w1.heap.size w1 W) => (HM1.out.below hW).map.look hw
      have HCF := Lib.hid fun (W : World) (hW : Below w1.heap.size w1 W) => HC1.out.below hW
      have HGF := Lib.hid fun (W : World) (hW : Below w1.heap.size w1 W) => (HM1.out.below hW).cells
      refine wp_region_R (Below w1.heap.size w1) 12 (by kernel_rfl) ?_
      refine wpAnyR_leadI (by kernel_rfl) ?hQ ?hS0 [0, 1, 2, 3, 4, 5, 6, 7, 8, 9] 3 _ _ (by kernel_rfl) ?_
      case hQ => intro c a d v w h; cases d <;> exact h
      case hS0 => exact dr w1
      iterate 10 (refine wpLeadI_read (v := ?_) _ rfl rfl (by rfl) ?_ ?_; rotate_left; (intro W hW; have hA := (HMF.out W hW).2 HN.out; obtain ⟨hB0, hB1, hB2, hB3⟩ := HCF.out W hW; obtain ⟨A, c, hG, hG0, hG1, hG2, hG3⟩ := HGF.out W hW; go_simp; (try with_reducible rfl)); try simp only [Act.put, List.setIfInBounds_toArray, List.set_cons_succ, List.set_cons_zero])
      simp only [wpLeadI]
      refine wpAnyR_one (i := 10) rfl (by kernel_rfl) ?_
      intro K1 hK1
      go_simp
      refine hK1.out _ _ (blw (dr w1) (al _ _)) ?_
      clear hK1 K1
      try simp only [Act.put, List.setIfInBounds_toArray, List.set_cons_succ, List.set_cons_zero]
      refine wpAnyR_one (i := 11) rfl (by kernel_rfl) ?_
      intro K1 hK1
      go_simp
      refine hK1.out _ _ (blw (al _ _) (dr _)) ?_
      clear hK1 K1
      try simp only [Act.put, List.setIfInBounds_toArray, List.set_cons_succ, List.set_cons_zero]
      refine wpAnyR_one (i := 12) rfl (by kernel_rfl) ?_
      intro K1 hK1
      go_simp
      refine hK1.out _ _ (blw (al _ _) (dr _)) ?_
      clear hK1 K1
      refine ⟨by kernel_rfl, ?_⟩
      have HX2 := Lib.hid (blw (al w1 (.cells #[.int .i64 0, .int .i64 0, .int .i64 0, .int .i64 0] 32)) (dr _))
      have HM2 := Lib.hid (HM1.out.below HX2.out)
      have HC2 := Lib.hid (HC1.out.below HX2.out)
      have HB2 := Lib.hid (blw HB1.out HX2.out)
      generalize (w1.alloc (.cells #[.int .i64 0, .int .i64 0, .int .i64 0, .int .i64 0] 32)).drew = w2 at HM2 HC2 HB2 HX2 ⊢
      obtain ⟨A2, c2, hs2, d0, d1, d2, df⟩ := HM2.out.cells
      obtain ⟨e1, e2, e3, e4⟩ := HC2.out
      have hle := HLF.out w2 HM2.out
      rw [Nat.zero_add] at e2 e3 e4
      have HS2 := Lib.hid hs2
      clear hs2
      go_wp2_with fail
      have HGC := Lib.hid fun (W : World) (hW : Below w2.heap.size w2 W) => And.intro (kp hW d2) (And.intro (kp hW e2) (And.intro (kp hW e3) (kp hW e4)))
      have HAD := Lib.hid fun (W : World) (hW : Below w2.heap.size w2 W) => add_any F s.fm s.to (-s.nd) A2 F.length c2 rfl (by have := HFL.out; omega) W (HS2.out.below hW)
      unfold RetS at HAD
      rw [HE.out] at HAD
      obtain ⟨r0, hr0⟩ : ∃ r0, addL F s.fm s.to (-s.nd) = r0 := ⟨_, rfl⟩
      obtain ⟨n0, hn0⟩ : ∃ n0, r0.length = n0 := ⟨_, rfl⟩
      rw [hr0, hn0] at HAD
      have HR0 := Lib.hid hr0
      have HN0 := Lib.hid hn0
      clear hr0 hn0
      refine wp_region_R (Below w2.heap.size w2) 17 (by kernel_rfl) ?_
      refine wpAnyR_leadI (by kernel_rfl) ?hQ ?hS0 [0, 1, 2, 3, 4, 5, 6, 7, 8, 9, 10] 6 _ _ (by kernel_rfl) ?_
      case hQ => intro c a d v w h; cases d <;> exact h
      case hS0 => exact (dr w2)
      iterate 11 (refine wpLeadI_read (v := ?_) _ rfl rfl (by rfl) ?_ ?_; rotate_left; (intro W hW; obtain ⟨q2, q3, q4, q5⟩ := HGC.out W hW; go_simp; (try with_reducible rfl)); try simp only [Act.put, List.setIfInBounds_toArray, List.set_cons_succ, List.set_cons_zero])
      simp only [wpLeadI]
      refine wpAnyR_one (i := 11) rfl (by kernel_rfl) ?_
      intro K1 hK1
      go_simp
      refine (HAD.out _ (dr w2)).mono ?_
      rintro e w3 ⟨A3, c3, rfl, hs3, hb3⟩
      have HS3 := Lib.hid hs3
      have HB3 := Lib.hid (blw (dr w2) hb3)
      clear hs3 hb3
      refine hK1.out _ _ HB3.out ?_
      clear hK1 K1
      try simp only [Act.put, List.setIfInBounds_toArray, List.set_cons_succ, List.set_cons_zero]
      refine wpAnyR_leadI (by kernel_rfl) ?hQ ?hS0 [12, 13, 14, 15, 16] 0 _ _ (by kernel_rfl) ?_
      case hQ => intro c a d v w h; cases d <;> exact h
      case hS0 => exact HB3.out
      iterate 5 (refine wpLeadI_read (v := ?_) _ rfl rfl (by rfl) ?_ ?_; rotate_left; (intro W hW; obtain ⟨q2, q3, q4, q5⟩ := HGC.out W hW; go_simp; (try with_reducible rfl)); try simp only [Act.put, List.setIfInBounds_toArray, List.set_cons_succ, List.set_cons_zero])
      simp only [wpLeadI]
      refine ⟨by kernel_rfl, ?_⟩
      have HM3 := Lib.hid (HM2.out.below HB3.out)
      have HC3 := Lib.hid (HC2.out.below HB3.out)
      have HB4 := Lib.hid (blw HB2.out HB3.out)
      clear HGC HAD HMF HCF HGF d0 d1 d2 df e1 e2 e3 e4 hle
      by_cases h0 : e0 = 0
      · subst h0
        obtain ⟨A4, c4, hs4, d0, d1, d2, df⟩ := HM3.out.cells
        obtain ⟨e1, e2, e3, e4⟩ := HC3.out
        rw [Nat.zero_add] at e2 e3 e4
        clear hs4
        go_wp2_with fail
        have hgm := HM3.out.ne
        have HIR := Lib.hid HI.out.rise
        have HIL := Lib.hid HI.out.ll
        have HSI := Lib.hid HSO.out.id
        have HET := Lib.hid fun (W : World) (hW : BookM W g m N F L) => hW.map.entry HIR.out (by have := HIL.out; omega) (s := s) (by have := HSI.out; omega) hw
        have hgs : ¬ GB g m w.heap.size := by have := HH.out.lt; unfold GB; omega
        have HGS := Lib.hid (show w.heap.size ≠ m from fun e => hgs (Or.inr e))
        have HGM := Lib.hid (show g ≠ m from hgm)
        have HG3 := Lib.hid fun (W : World) (hW : Wr (fun b => b = m) w3 W) => And.intro (hW.cell HGM.out d1) (And.intro (hW.cell HGS.out e1) (And.intro (hW.cell HGS.out e2) (And.intro (hW.cell HGS.out e3) (hW.cell HGS.out e4))))
        have HW0 := Lib.hid (Wr.of_below (S := fun b => b = m) (dr w3))
        have HMD := Lib.hid (HM3.out.below (dr w3))
        clear d0 d2 df e1 e2 e3 e4 d1 hgs hgm
        obtain ⟨v0, st, w4, em, gr4, emS⟩ := HET.out _ HMD.out
        have HW4 := Lib.hid (HW0.out.trans (Wr.of_grown (S := fun b => b = m) gr4 fun b e => by injection e with e; exact e.symm))
        have HES := Lib.hid emS
        have HGR4 := Lib.hid gr4
        clear emS gr4
        refine wp_region_R (Wr (fun b => b = m) w3) 12 (by kernel_rfl) ?_
        refine wpAnyR_leadI (by kernel_rfl) ?hQ ?hS0 [0, 1, 2, 3, 4, 5, 6, 7, 8] 6 _ _ (by kernel_rfl) ?_
        case hQ => intro c a d v w h; cases d <;> exact h
        case hS0 => exact HW0.out
        iterate 9 (refine wpLeadI_read (v := ?_) _ rfl rfl (by rfl) ?_ ?_; rotate_left; (intro W hW; obtain ⟨q1, q2, q3, q4, q5⟩ := HG3.out W hW; go_simp; (try with_reducible rfl)); try simp only [Act.put, List.setIfInBounds_toArray, List.set_cons_succ, List.set_cons_zero])
        simp only [wpLeadI]
        refine wpAnyR_one (i := 9) rfl (by kernel_rfl) ?_
        intro K1 hK1
        go_simp
        refine hK1.out _ _ HW4.out ?_
        clear hK1 K1
        try simp only [Act.put, List.setIfInBounds_toArray, List.set_cons_succ, List.set_cons_zero]
        refine wpAnyR_leadI (by kernel_rfl) ?hQ ?hS0 [10] 4 _ _ (by kernel_rfl) ?_
        case hQ => intro c a d v w h; cases d <;> exact h
        case hS0 => exact HW4.out
        iterate 1 (refine wpLeadI_read (v := ?_) _ rfl rfl (by rfl) ?_ ?_; rotate_left; (intro W hW; obtain ⟨q1, q2, q3, q4, q5⟩ := HG3.out W hW; go_simp; (try with_reducible rfl)); try simp only [Act.put, List.setIfInBounds_toArray, List.set_cons_succ, List.set_cons_zero])
        simp only [wpLeadI]
        refine wpAnyR_one (i := 11) rfl (by kernel_rfl) ?_
        intro K2 hK2
        go_simp
        obtain ⟨w5, es5, hm5, gr5⟩ := HES.out w4 rfl
        have HW5 := Lib.hid (HW4.out.trans (Wr.of_grown (S := fun b => b = m) gr5 fun b e => by injection e with e; exact e.symm))
        have HM5 := Lib.hid hm5
        have HGR5 := Lib.hid gr5
        clear hm5 gr5
        go_simp
        refine hK2.out _ _ HW5.out ?_
        clear hK2 K2
        try simp only [Act.put, List.setIfInBounds_toArray, List.set_cons_succ, List.set_cons_zero]
        refine wpAnyR_tail rfl (by kernel_rfl) ?_
        obtain ⟨hB5, hW5⟩ := HMD.out.mapped (gtr HGR4.out HGR5.out) HM5.out
        have HB5 := Lib.hid hB5
        have HWW := Lib.hid ((Wr.of_below (S := GB g m) (blw HB4.out (dr w3))).trans hW5)
        have HS5 := Lib.hid ((HS3.out.below (dr w3)).wr HMD.out hW5)
        clear hB5 hW5
        obtain ⟨A6, c6, hs6, d0, d1, d2, df⟩ := HB5.out.cells
        clear hs6 d0 d1
        go_wp2
        go_ret
        obtain ⟨hr1, hr2⟩ := HRM.out
        rw [if_pos (by trivial)] at hr1 hr2
        have hst := HB5.out.store (F' := r0) HN0.out.symm HS5.out
        rw [rem_no HN.out, hr2, show r0 = R from HR0.out.symm.trans hr1] at hst
        exact ⟨rfl, hst.1, HWW.out.trans hst.2⟩
      · have hb : (e0 != 0) = true := by rw [bne_iff_ne]; exact h0
        go_wp2
        go_ret
        obtain ⟨rfl, rfl⟩ := HRM.out
        rw [if_neg h0, if_neg h0]
        exact ⟨rfl, HH.out.below HB4.out, Wr.of_below HB4.out⟩
end Go.Proofs.Ytapojmniokdjfaa.Bk

