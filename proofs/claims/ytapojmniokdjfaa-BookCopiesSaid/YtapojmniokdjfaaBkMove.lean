/- Layer 11: Move. -/
import Derived.Test.YtapojmniokdjfaaBkCut
import Derived.Test.YtapojmniokdjfaaClkB
namespace Go.Proofs.Ytapojmniokdjfaa.Bk
open Go.RowKit Go.Shelf
open Stp (inW blw al dr drN kp Stp OwnS RetSO addO_any addE addL addE_iff add_yes)
open Ft (wp_region_R wpAnyR_leadI wpLeadI wpLeadI_read wpLeadI_skip wpAnyR_one wpAnyR_tail)
set_option linter.unusedVariables false
set_option maxRecDepth 100000

/-- what Move leaves -/
def MoveO (F : List StepD) (L : List SlotD) (id fm e0 : Int) (F' : List StepD) (L' : List SlotD) : Prop :=
  (fndS id L = none ∧ e0 = 4 ∧ F' = F ∧ L' = L) ∨ (∃ s, fndS id L = some s ∧ (Clk.isT fm = false ∨ 1099511627775 < fm + (s.to - s.fm)) ∧ e0 = 2 ∧ F' = F ∧ L' = L) ∨
  (∃ s, fndS id L = some s ∧ Clk.isT fm = true ∧ fm + (s.to - s.fm) ≤ 1099511627775 ∧ e0 = 70 ∧ (¬ ∀ t, 0 ≤ t → 0 ≤ valF 0 F t + inW s.fm s.to s.nd t + inW fm (fm + (s.to - s.fm)) (-s.nd) t ∧ valF 0 F t + inW s.fm s.to s.nd t + inW fm (fm + (s.to - s.fm)) (-s.nd) t ≤ 10000) ∧ F' = F ∧ L' = L) ∨
  (∃ s, fndS id L = some s ∧ Clk.isT fm = true ∧ fm + (s.to - s.fm) ≤ 1099511627775 ∧ e0 = 0 ∧ Prof F' ∧ (∀ t, 0 ≤ t → valF 0 F' t = valF 0 F t + inW s.fm s.to s.nd t + inW fm (fm + (s.to - s.fm)) (-s.nd) t) ∧ L' = insS ⟨s.id, fm, fm + (s.to - s.fm), s.nd⟩ (remS id L))
theorem BkI.move {N : Int} {F R : List StepD} {L : List SlotD} {T : List Int} {k : Nat} {s : SlotD} {id fm to : Int} (h : BkI N F L T k) (hf : fndS id L = Option.some s) (h1 : 0 ≤ fm) (h2 : fm < to) (h3 : to ≤ 1099511627775) (hR : Prof R) (hv : ∀ t, 0 ≤ t → valF 0 R t = valF 0 F t + inW s.fm s.to s.nd t + inW fm to (-s.nd) t) :
    BkI N R (insS ⟨s.id, fm, to, s.nd⟩ (remS id L)) (fm :: to :: T) (k + 1) := by
  obtain ⟨hm, hid⟩ := fnd_some hf
  have ho := h.ok s hm
  have hno : fndS s.id (remS id L) = none := by rw [fnd_rem h.rise, if_pos hid]
  refine ⟨h.n, hR, rise_ins (rise_rem h.rise) (by have := ho.id; show 0 < s.id; omega) hno, fun u hu => ?_, fun t ht => ?_, ?_, fun u hu => ?_, by have := h.lt; simp only [List.length_cons]; omega, by have := h.ll; have := len_remY h.rise hf; rw [len_ins]; omega⟩
  · rcases mem_ins.1 hu with rfl | hu
    · exact ⟨ho.id, ⟨h1, by show fm ≤ _; omega⟩, ⟨by show 0 ≤ to; omega, h3⟩, h2, ho.nd⟩
    · exact h.ok u (mem_rem.1 hu).1
  · rw [hv t ht, tak_ins, inW_neg]
    have q1 := h.top t ht
    have q2 := tak_rem t h.rise hf
    show valF 0 F t + inW s.fm s.to s.nd t + -inW fm to s.nd t + (takV (remS id L) t + inW fm to s.nd t) ≤ N
    omega
  · have he := h.ends s hm
    exact (((h.chg.mono (T' := fm :: to :: T) fun t ht => by simp [ht]).add (chg_inW (T := fm :: to :: T) (by simp [he.1]) (by simp [he.2]))).add (chg_inW (T := fm :: to :: T) (by simp) (by simp))).of hv
  · rcases mem_ins.1 hu with rfl | hu
    · exact ⟨by simp, by simp⟩
    · have := h.ends u (mem_rem.1 hu).1; exact ⟨by simp [this.1], by simp [this.2]⟩
theorem _root_.Go.Proofs.Ytapojmniokdjfaa.Stp.Stp.fresh {w : World} {A : Option Addr} {c tb : Nat} {l : List StepD} (h : Stp w A c l) (hF : ∀ q off, A = some ⟨q, off, none⟩ → q ≠ tb) (o : Nat) (v : Value) : Stp (w.setCell ⟨tb, o, none⟩ v) A c l := by
  refine ⟨fun k s hk => ?_, h.cap, h.top, h.nil⟩
  obtain ⟨b, off, e, c0, c1⟩ := h.cells k s hk
  have hne := hF b off e
  refine ⟨b, off, e, ?_, ?_⟩
  · unfold World.cell? at c0 ⊢; rw [Below.heap_setCell w ⟨tb, o, none⟩ v b (fun e => hne e)]; exact c0
  · unfold World.cell? at c1 ⊢; rw [Below.heap_setCell w ⟨tb, o, none⟩ v b (fun e => hne e)]; exact c1
theorem ints_one (w : World) (x : Int) (t : TypeId) : Clk.Ints (w.alloc (.cells #[.int .i64 x] t)) (some ⟨w.heap.size, 0, none⟩) [x] := fun k y hk => by
  obtain ⟨b, off, e, hc⟩ := (its_one w x t).cells k y hk
  exact ⟨b, off, e, World.block_lt_of_cell? _ _ hc, hc⟩
set_option maxHeartbeats 6400000 in
theorem move_any (id fm : Int) (hw : (Lit.int .i64 id).wf = true) (w : World) (g m : Nat) (N : Int) (F : List StepD) (L : List SlotD) (T : List Int) (k : Nat) (hI : BkI N F L T k) (hk : k ≤ 100) (h : BookM w g m N F L) :
    Calls Try.prog 19 #[.pointer (some ⟨g, 0, none⟩), .int .i64 id, .int .i64 fm] w fun e w' => ∃ e0 F' L', e = .returned (.int .i64 e0) ∧ MoveO F L id fm e0 F' L' ∧ BookM w' g m N F' L' ∧ Wr (GB g m) w w' := by
  obtain ⟨A, c, hs, c0, c1, c2, cf⟩ := h.cells
  have hlook := h.map.look hw
  cases hf : fndS id L with
  | none =>
    have hl := hlook.2 hf
    have HX := Lib.hid (al w (.cells #[.int .i64 0, .int .i64 0, .int .i64 0, .int .i64 0] 32))
    have HH := Lib.hid h; have HF := Lib.hid hf
    clear hlook hs c0 c2 cf h hf
    go_enter Try.func19, Try.ntmps19
    go_wp2
    go_ret
    exact ⟨4, F, L, rfl, Or.inl ⟨HF.out, rfl, rfl, rfl⟩, HH.out.below HX.out, Wr.of_below HX.out⟩
  | some s =>
    have hl := hlook.1 s hf
    obtain ⟨hm, hid⟩ := fnd_some hf
    have ho := hI.ok s hm
    have HX := Lib.hid (al w (.cells #[.int .i64 s.id, .int .i64 s.fm, .int .i64 s.to, .int .i64 s.nd] 32))
    have HBK := Lib.hid (heap_alloc_new w (.cells #[.int .i64 s.id, .int .i64 s.fm, .int .i64 s.to, .int .i64 s.nd] 32))
    have HH := Lib.hid h; have HF := Lib.hid hf; have HI := Lib.hid hI; have HGM := Lib.hid h.lt
    have HM1 := Lib.hid (h.below HX.out)
    have HO := Lib.hid ho
    have hb1 := ho.fm; have hb2 := ho.to; have hb3 := ho.lt
    have k0 := (Dag.blk_cell HBK.out 0).trans rfl
    have k1 := (Dag.blk_cell HBK.out 1).trans rfl
    have k2 := (Dag.blk_cell HBK.out 2).trans rfl
    have k3 := (Dag.blk_cell HBK.out 3).trans rfl
    have HCA := Lib.hid fun (A : Option Addr) (c : Nat) (W : World) (hi : Clk.Ints W A [s.to - s.fm]) => Clk.add_any fm A c [s.to - s.fm] W hi (by simp [maxLen])
    have hd : Clk.isT (s.to - s.fm) = true := Clk.isT_yes (by omega) (by omega)
    by_cases hok : Clk.isT fm = true ∧ fm + (s.to - s.fm) ≤ 1099511627775
    case neg =>
      have he : Clk.addE [fm, s.to - s.fm] ≠ 0 := fun q => hok (by
        cases ht : Clk.isT fm
        · rw [(Clk.add_arg (l := [fm, s.to - s.fm]) (by simp [Clk.allT, ht])).2] at q; cases q
        · refine ⟨rfl, ?_⟩
          rcases Int.lt_or_le 1099511627775 (fm + (s.to - s.fm)) with q2 | q2
          · rw [(Clk.add_over (l := [fm, s.to - s.fm]) (by simp [Clk.allT, ht, hd]) (by simpa [Clk.sumL] using q2)).2] at q; cases q
          · exact q2)
      have hno : Clk.isT fm = false ∨ 1099511627775 < fm + (s.to - s.fm) := by
        cases ht : Clk.isT fm
        · exact Or.inl rfl
        · refine Or.inr ?_
          rcases Int.lt_or_le 1099511627775 (fm + (s.to - s.fm)) with q2 | q2
          · exact q2
          · exact absurd ⟨ht, q2⟩ hok
      have HNO := Lib.hid hno
      obtain ⟨v1, hv1⟩ : ∃ v1, Clk.addV [fm, s.to - s.fm] = v1 := ⟨_, rfl⟩
      obtain ⟨e1, he1⟩ : ∃ e1, Clk.addE [fm, s.to - s.fm] = e1 := ⟨_, rfl⟩
      rw [hv1, he1] at HCA
      rw [he1] at he
      have heb : (e1 != 0) = true := by rw [bne_iff_ne]; exact he
      clear hlook hs c0 c2 cf h hf hm hid ho hd hok he hno hv1 he1
      go_enter Try.func19, Try.ntmps19
      go_wp2_with fail
      have HZ : (w.alloc (.cells #[.int .i64 s.id, .int .i64 s.fm, .int .i64 s.to, .int .i64 s.nd] 32)).heap.size = w.heap.size + 1 := by simp
      generalize w.alloc (.cells #[.int .i64 s.id, .int .i64 s.fm, .int .i64 s.to, .int .i64 s.nd] 32) = w1 at HX HM1 HBK HZ k0 k1 k2 k3 ⊢
      rw [← HZ]
      have HY := Lib.hid (al w1 (.cells #[.int .i64 (s.to - s.fm)] 3))
      refine (HCA.out _ _ _ (ints_one w1 _ _)).mono ?_
      rintro e w2 ⟨rfl, rfl⟩
      go_wp2
      go_ret
      exact ⟨2, F, L, rfl, Or.inr (Or.inl ⟨s, HF.out, HNO.out, rfl, rfl, rfl⟩), HM1.out.below HY.out, Wr.of_below (blw HX.out HY.out)⟩
    obtain ⟨htf, hto⟩ := hok
    obtain ⟨to, htoe⟩ : ∃ to, fm + (s.to - s.fm) = to := ⟨_, rfl⟩
    have hca : Clk.addV [fm, s.to - s.fm] = to ∧ Clk.addE [fm, s.to - s.fm] = 0 := by
      have := Clk.add_yes (l := [fm, s.to - s.fm]) (by simp [Clk.allT, htf, hd]) (by simpa [Clk.sumL] using hto)
      refine ⟨?_, this.2⟩
      rw [this.1, ← htoe]; simp [Clk.sumL]
    rw [hca.1, hca.2] at HCA
    have hfb := Clk.isT_bd htf
    have htob : fm < to ∧ to ≤ 1099511627775 := by omega
    have HTF := Lib.hid htf; have HTO := Lib.hid htoe
    have HA1 := Lib.hid (free_ok hI hf)
    have HLN := Lib.hid hI.len
    have hnb := ho.nd; have hNb := hI.n
    have hwn : IntKind.i64.wrap (-s.nd) = -s.nd := IntWalk.i64_in _ (by omega)
    have HAV := Lib.hid (add_yes HA1.out (by have := HLN.out; omega))
    obtain ⟨R, hR⟩ : ∃ R, addL F s.fm s.to s.nd = R := ⟨_, rfl⟩
    have HA2 : Hid (addE R fm to (-s.nd) = 70 ∧ (¬ ∀ t, 0 ≤ t → 0 ≤ valF 0 F t + inW s.fm s.to s.nd t + inW fm to (-s.nd) t ∧ valF 0 F t + inW s.fm s.to s.nd t + inW fm to (-s.nd) t ≤ 10000) ∨ addE R fm to (-s.nd) = 0) := Lib.hid (by
      rw [← hR]
      by_cases q : ∀ t, 0 ≤ t → 0 ≤ valF 0 (addL F s.fm s.to s.nd) t + inW fm to (-s.nd) t ∧ valF 0 (addL F s.fm s.to s.nd) t + inW fm to (-s.nd) t ≤ 10000
      · exact Or.inr (addE_iff.2 ⟨HAV.out.prof, ⟨hfb.1, hfb.2⟩, ⟨by omega, htob.2⟩, by omega, by omega, q⟩)
      · refine Or.inl ⟨addE_70 HAV.out.prof ⟨hfb.1, hfb.2⟩ ⟨by omega, htob.2⟩ (by omega) (by omega) q, fun q2 => q fun t ht => ?_⟩
        rw [HAV.out.val t ht]; exact q2 t ht)
    rw [hR] at HAV
    subst hid
    clear hlook hs c0 c2 cf h hf hm ho hca htf hto htoe hd
    go_enter Try.func19, Try.ntmps19
    go_wp2_with fail
    have HZ : (w.alloc (.cells #[.int .i64 s.id, .int .i64 s.fm, .int .i64 s.to, .int .i64 s.nd] 32)).heap.size = w.heap.size + 1 := by simp
    generalize w.alloc (.cells #[.int .i64 s.id, .int .i64 s.fm, .int .i64 s.to, .int .i64 s.nd] 32) = w1 at HX HM1 HBK HZ k0 k1 k2 k3 ⊢
    rw [← HZ]
    have HY := Lib.hid (al w1 (.cells #[.int .i64 (s.to - s.fm)] 3))
    refine (HCA.out _ _ _ (ints_one w1 _ _)).mono ?_
    rintro e w2 ⟨rfl, rfl⟩
    go_wp2_with fail
    have HM2 := Lib.hid (HM1.out.below HY.out)
    have HBK2 : Hid ((w1.alloc (.cells #[.int .i64 (s.to - s.fm)] 3)).heap[w.heap.size]? = some (.cells #[.int .i64 s.id, .int .i64 s.fm, .int .i64 s.to, .int .i64 s.nd] 32 (0, 0))) := Lib.hid (by rw [HY.out.block _ (Dag.blk_lt HBK.out)]; exact HBK.out)
    have HX2 := Lib.hid (blw HX.out HY.out)
    clear k0 k1 k2 k3
    generalize w1.alloc (.cells #[.int .i64 (s.to - s.fm)] 3) = w2 at HM2 HBK2 HX2 ⊢
    clear HY HBK HM1 HX HZ w1
    have k0 := (Dag.blk_cell HBK2.out 0).trans rfl
    have k1 := (Dag.blk_cell HBK2.out 1).trans rfl
    have k2 := (Dag.blk_cell HBK2.out 2).trans rfl
    have k3 := (Dag.blk_cell HBK2.out 3).trans rfl
    have htg : w.heap.size ≠ g := by have := HGM.out.1; omega
    have htm : w.heap.size ≠ m := by have := HGM.out.2; omega
    have HTB := Lib.hid (And.intro htg htm)
    generalize htbe : w.heap.size = tb at HBK2 HTB k0 k1 k2 k3 ⊢
    obtain ⟨A1, c1', hs1, d0, d1, d2, df⟩ := HM2.out.cells
    have HS1 := Lib.hid hs1
    have HCF := Lib.hid fun (W : World) (hW : Below w2.heap.size w2 W) => And.intro (kp hW d2) (And.intro (kp hW k1) (And.intro (kp hW k2) (kp hW k3)))
    have HAD := Lib.hid fun (W : World) (hW : Below w2.heap.size w2 W) => addO_any F s.fm s.to s.nd A1 F.length c1' rfl (by have := HLN.out; omega) W (HS1.out.below hW)
    unfold RetSO at HAD
    rw [HA1.out, hR] at HAD
    have HRL : Hid (R.length ≤ 210) := Lib.hid (by have := HAV.out.len; have := HLN.out; omega)
    have HAD2 := Lib.hid fun (A : Option Addr) (c : Nat) (W : World) (hs : Stp W A c R) => addO_any R fm to (-s.nd) A R.length c rfl (by have := HRL.out; omega) W hs
    clear hs1 d0 d1 htg htm hR
    refine wp_region_R (Below w2.heap.size w2) 16 (by kernel_rfl) ?_
    refine wpAnyR_leadI (by kernel_rfl) ?hQ ?hS0 [0, 1, 2, 3, 4, 5, 6, 7, 8, 9] 6 _ _ (by kernel_rfl) ?_
    case hQ => intro c a d v w h; cases d <;> exact h
    case hS0 => exact (dr w2)
    iterate 10 (refine wpLeadI_read (v := ?_) _ rfl rfl (by rfl) ?_ ?_; rotate_left; (intro W hW; obtain ⟨q2, q3, q4, q5⟩ := HCF.out W hW; go_simp; (try with_reducible rfl)); try simp only [Act.put, List.setIfInBounds_toArray, List.set_cons_succ, List.set_cons_zero])
    simp only [wpLeadI]
    refine wpAnyR_one (i := 10) rfl (by kernel_rfl) ?_
    intro K1 hK1
    go_simp
    refine (HAD.out _ (dr w2)).mono ?_
    rintro e w3 ⟨A3, c3, rfl, hs3, hb3, hn3⟩
    have HB3 := Lib.hid (blw (dr w2) hb3)
    have HS3 := Lib.hid hs3
    clear hs3 hb3 hn3
    refine hK1.out _ _ HB3.out ?_
    clear hK1 K1
    try simp only [Act.put, List.setIfInBounds_toArray, List.set_cons_succ, List.set_cons_zero]
    refine wpAnyR_leadI (by kernel_rfl) ?hQ ?hS0 [11, 12, 13, 14, 15] 0 _ _ (by kernel_rfl) ?_
    case hQ => intro c a d v w h; cases d <;> exact h
    case hS0 => exact HB3.out
    iterate 5 (refine wpLeadI_read (v := ?_) _ rfl rfl (by rfl) ?_ ?_; rotate_left; (intro W hW; obtain ⟨q2, q3, q4, q5⟩ := HCF.out W hW; go_simp; (try with_reducible rfl)); try simp only [Act.put, List.setIfInBounds_toArray, List.set_cons_succ, List.set_cons_zero])
    simp only [wpLeadI]
    refine ⟨by kernel_rfl, ?_⟩
    have HBK3 : Hid (w3.heap[tb]? = some (.cells #[.int .i64 s.id, .int .i64 s.fm, .int .i64 s.to, .int .i64 s.nd] 32 (0, 0))) := Lib.hid (by rw [HB3.out.block _ (Dag.blk_lt HBK2.out)]; exact HBK2.out)
    have HM3 := Lib.hid (HM2.out.below HB3.out)
    have HX3 := Lib.hid (HX2.out.trans (HB3.out.mono HX2.out.size))
    clear k0 k1 k2 k3 HCF HAD d2 df
    have k3 := (Dag.blk_cell HBK3.out 3).trans rfl
    go_wp2_with fail
    rcases HA2.out with ⟨he, hno⟩ | he
    · have HNO := Lib.hid hno
      unfold RetSO at HAD2
      rw [he] at HAD2
      clear hno he
      refine (HAD2.out _ _ _ HS3.out).mono ?_
      rintro e w4 ⟨A4, c4, rfl, hs4, hb4, _⟩
      have HM4 := Lib.hid (HM3.out.below hb4)
      have HX4 := Lib.hid (blw HX3.out hb4)
      clear hs4 hb4
      go_wp2
      go_ret
      refine ⟨70, F, L, rfl, Or.inr (Or.inr (Or.inl ⟨s, HF.out, HTF.out, by rw [HTO.out]; exact htob.2, rfl, by rw [HTO.out]; exact HNO.out, rfl, rfl⟩)), HM4.out, Wr.of_below HX4.out⟩
    have HAV2 := Lib.hid (add_yes he (by have := HRL.out; omega))
    unfold RetSO at HAD2
    rw [he] at HAD2
    obtain ⟨R2, hR2⟩ : ∃ R2, addL R fm to (-s.nd) = R2 := ⟨_, rfl⟩
    rw [hR2] at HAD2 HAV2
    clear he hR2 HA2
    refine (HAD2.out _ _ _ HS3.out).mono ?_
    rintro e w4 ⟨A4, c4, rfl, hs4, hb4, hn4⟩
    have HS4 := Lib.hid hs4
    have HM4 := Lib.hid (HM3.out.below hb4)
    have HB4 := Lib.hid hb4
    have hbk4 : w4.heap[tb]? = some (.cells #[.int .i64 s.id, .int .i64 s.fm, .int .i64 s.to, .int .i64 s.nd] 32 (0, 0)) := by rw [hb4.block _ (Dag.blk_lt HBK3.out)]; exact HBK3.out
    have HX4 := Lib.hid (blw HX3.out hb4)
    have HN4 : Hid (∀ q off, A4 = some ⟨q, off, none⟩ → q ≠ tb) := Lib.hid fun q off e => by have h1 := hn4 q off e; have h2 := Dag.blk_lt HBK3.out; omega
    have hFB : ∀ W : World, W.heap[g]? = w.heap[g]? → ∀ A c, W.heap[g]? = some (.cells #[.int .i64 N, .map (some m), .slice A F.length c] 65 (0, 0)) → ∀ q off, A = some ⟨q, off, none⟩ → q ≠ tb := fun W hW A5 c5 e5 q off eq => by
      obtain ⟨A0, c0, h1, h2⟩ := HH.out.blk
      rw [hW, h1] at e5
      simp only [Option.some.injEq, Obj.cells.injEq, and_true] at e5
      have e6 := congrArg (fun a : Array Value => a[2]?) e5
      simp at e6
      have e7 := e6.1
      rw [← e7] at eq
      obtain ⟨s0, r0, e0, _⟩ := HI.out.prof.zero
      obtain ⟨b0, o0, s1, eA, _, z0, _⟩ := h2.lt (k := 0) (by rw [e0]; simp)
      rw [eA] at eq
      injection eq with eq
      injection eq with eq
      have z1 := World.block_lt_of_cell? w _ z0
      have z2 : b0 < w.heap.size := z1
      omega
    have hbk5 := Dag.blk_set hbk4 1 (.int .i64 fm)
    have hbk6 := Dag.blk_set hbk5 2 (.int .i64 to)
    have hgw4 : w4.heap[g]? = w.heap[g]? := HX4.out.block g HGM.out.1
    have hM5 := HM4.out.fresh HTB.out.1 HTB.out.2 (hFB _ hgw4) 1 (.int .i64 fm)
    have hM6 := hM5.fresh HTB.out.1 HTB.out.2 (hFB _ (by rw [Dag.blk_other (fun e => HTB.out.1 e.symm)]; exact hgw4)) 2 (.int .i64 to)
    have hS6 := (HS4.out.fresh HN4.out 1 (.int .i64 fm)).fresh HN4.out 2 (.int .i64 to)
    have hX6 : Below w.heap.size w ((w4.setCell ⟨tb, 1, none⟩ (.int .i64 fm)).setCell ⟨tb, 2, none⟩ (.int .i64 to)) := by
      have h1 := HX4.out
      refine ⟨h1.os, h1.tape, h1.output, by have := h1.size; simpa [World.setCell] using this, fun q hq => ?_⟩
      rw [Below.heap_setCell _ ⟨tb, 2, none⟩ _ q (fun e => by have : q = tb := e; omega), Below.heap_setCell _ ⟨tb, 1, none⟩ _ q (fun e => by have : q = tb := e; omega)]
      exact h1.block q hq
    have HM6 := Lib.hid hM6; have HS6 := Lib.hid hS6; have HX6 := Lib.hid hX6; have HBK6 := Lib.hid hbk6
    have y1 := (Dag.blk_cell hbk4 1).trans rfl
    have yf := Dag.blk_frozen hbk4 1
    have y2 := (Dag.blk_cell hbk5 2).trans rfl
    have yf2 := Dag.blk_frozen hbk5 2
    clear hs4 hb4 hn4 hFB hbk4 hbk5 hbk6 hM5 hM6 hS6 hX6 hgw4 k3
    go_wp2_with fail
    generalize (w4.setCell ⟨tb, 1, none⟩ (.int .i64 fm)).setCell ⟨tb, 2, none⟩ (.int .i64 to) = w6 at HM6 HS6 HX6 HBK6 ⊢
    clear y1 yf y2 yf2
    have j0 := (Dag.blk_cell HBK6.out 0).trans rfl
    have j1 := (Dag.blk_cell HBK6.out 1).trans rfl
    have j2 := (Dag.blk_cell HBK6.out 2).trans rfl
    have j3 := (Dag.blk_cell HBK6.out 3).trans rfl
    obtain ⟨_, _, _, _, p1, _, _⟩ := HM6.out.cells
    have hgm := HM6.out.ne
    have HIR := Lib.hid HI.out.rise
    have HIL := Lib.hid HI.out.ll
    have HSI := Lib.hid HO.out.id
    have HET := Lib.hid fun (W : World) (hW : BookM W g m N F L) => hW.map.entry HIR.out (by have := HIL.out; omega) (s := ⟨s.id, fm, to, s.nd⟩) (by have := HSI.out; show 0 < s.id; omega) hw
    have HG3 := Lib.hid fun (W : World) (hW : Wr (fun b => b = m) w6 W) => And.intro (hW.cell hgm p1) (And.intro (hW.cell HTB.out.2 j0) (And.intro (hW.cell HTB.out.2 j1) (And.intro (hW.cell HTB.out.2 j2) (hW.cell HTB.out.2 j3))))
    have HW0 := Lib.hid (Wr.of_below (S := fun b => b = m) (dr w6))
    have HMD := Lib.hid (HM6.out.below (dr w6))
    clear j0 j1 j2 j3 p1 hgm
    obtain ⟨v0, st, w7, em, gr7, emS⟩ := HET.out _ HMD.out
    have HW7 := Lib.hid (HW0.out.trans (Wr.of_grown (S := fun b => b = m) gr7 fun b e => by injection e with e; exact e.symm))
    have HES := Lib.hid emS
    have HGR7 := Lib.hid gr7
    clear emS gr7
    refine wp_region_R (Wr (fun b => b = m) w6) 11 (by kernel_rfl) ?_
    refine wpAnyR_leadI (by kernel_rfl) ?hQ ?hS0 [0, 1, 2, 3, 4, 5, 6, 7] 6 _ _ (by kernel_rfl) ?_
    case hQ => intro c a d v w h; cases d <;> exact h
    case hS0 => exact HW0.out
    iterate 8 (refine wpLeadI_read (v := ?_) _ rfl rfl (by rfl) ?_ ?_; rotate_left; (intro W hW; obtain ⟨q1, q2, q3, q4, q5⟩ := HG3.out W hW; go_simp; (try with_reducible rfl)); try simp only [Act.put, List.setIfInBounds_toArray, List.set_cons_succ, List.set_cons_zero])
    simp only [wpLeadI]
    refine wpAnyR_one (i := 8) rfl (by kernel_rfl) ?_
    intro K1 hK1
    go_simp
    refine hK1.out _ _ HW7.out ?_
    clear hK1 K1
    try simp only [Act.put, List.setIfInBounds_toArray, List.set_cons_succ, List.set_cons_zero]
    refine wpAnyR_leadI (by kernel_rfl) ?hQ ?hS0 [9] 4 _ _ (by kernel_rfl) ?_
    case hQ => intro c a d v w h; cases d <;> exact h
    case hS0 => exact HW7.out
    iterate 1 (refine wpLeadI_read (v := ?_) _ rfl rfl (by rfl) ?_ ?_; rotate_left; (intro W hW; obtain ⟨q1, q2, q3, q4, q5⟩ := HG3.out W hW; go_simp; (try with_reducible rfl)); try simp only [Act.put, List.setIfInBounds_toArray, List.set_cons_succ, List.set_cons_zero])
    simp only [wpLeadI]
    refine wpAnyR_one (i := 10) rfl (by kernel_rfl) ?_
    intro K2 hK2
    go_simp
    obtain ⟨w8, es8, hm8, gr8⟩ := HES.out w7 rfl
    have HW8 := Lib.hid (HW7.out.trans (Wr.of_grown (S := fun b => b = m) gr8 fun b e => by injection e with e; exact e.symm))
    have HM8 := Lib.hid hm8
    have HGR8 := Lib.hid gr8
    clear hm8 gr8
    go_simp
    refine hK2.out _ _ HW8.out ?_
    clear hK2 K2
    try simp only [Act.put, List.setIfInBounds_toArray, List.set_cons_succ, List.set_cons_zero]
    refine wpAnyR_tail rfl (by kernel_rfl) ?_
    obtain ⟨hB8, hW8⟩ := HMD.out.mapped (gtr HGR7.out HGR8.out) HM8.out
    have HB8 := Lib.hid hB8
    have HWW := Lib.hid ((Wr.of_below (S := GB g m) (blw HX6.out (dr w6))).trans hW8)
    have HS8 := Lib.hid ((HS6.out.below (dr w6)).wr HMD.out hW8)
    clear hB8 hW8
    obtain ⟨_, _, hs9, d0, d1, d2, df⟩ := HB8.out.cells
    clear hs9 d0 d1
    go_wp2
    go_ret
    obtain ⟨hMF, hWF⟩ := HB8.out.store (F' := R2) rfl HS8.out
    refine ⟨0, rfl, R2, _, Or.inr (Or.inr (Or.inr ⟨s, HF.out, HTF.out, by rw [HTO.out]; exact htob.2, rfl, HAV2.out.prof, fun t ht => ?_, rfl⟩)), by rw [HTO.out]; exact hMF, HWW.out.trans hWF⟩
    rw [HAV2.out.val t ht, HAV.out.val t ht, HTO.out]
end Go.Proofs.Ytapojmniokdjfaa.Bk

