/- Layer 11: Cut. -/
import Derived.Test.YtapojmniokdjfaaBkFree
import Derived.Test.YtapojmniokdjfaaBkAdd
import Derived.Test.YtapojmniokdjfaaBkKn
namespace Go.Proofs.Ytapojmniokdjfaa.Bk
open Go.RowKit Go.Shelf
open Stp (inW blw al dr drN kp Stp OwnS RetSO addO_any addE addL addE_iff add_yes)
open Ft (wp_region_R wpAnyR_leadI wpLeadI wpLeadI_read wpLeadI_skip wpAnyR_one wpAnyR_tail)
set_option linter.unusedVariables false
set_option maxRecDepth 100000

/-- what Cut leaves -/
def CutO (F : List StepD) (L : List SlotD) (id to e0 : Int) (F' : List StepD) (L' : List SlotD) : Prop :=
  (fndS id L = none ∧ e0 = 4 ∧ F' = F ∧ L' = L) ∨ (∃ s, fndS id L = some s ∧ (Clk.isT to = false ∨ s.to < to) ∧ e0 = 2 ∧ F' = F ∧ L' = L) ∨
  (∃ s, fndS id L = some s ∧ Clk.isT to = true ∧ to ≤ s.to ∧ to ≤ s.fm ∧ e0 = 0 ∧ Prof F' ∧ (∀ t, 0 ≤ t → valF 0 F' t = valF 0 F t + inW s.fm s.to s.nd t) ∧ L' = remS id L) ∨
  (∃ s, fndS id L = some s ∧ Clk.isT to = true ∧ to ≤ s.to ∧ s.fm < to ∧ e0 = 0 ∧ Prof F' ∧ (∀ t, 0 ≤ t → valF 0 F' t = valF 0 F t + inW to s.to s.nd t) ∧ L' = insS ⟨s.id, s.fm, to, s.nd⟩ (remS id L))
theorem cut_add {N : Int} {F : List StepD} {L : List SlotD} {T : List Int} {k : Nat} {s : SlotD} {id to : Int} (h : BkI N F L T k) (hf : fndS id L = some s) (h1 : s.fm < to) (h2 : to ≤ s.to) : addE F to s.to s.nd = 0 := by
  obtain ⟨hm, hid⟩ := fnd_some hf
  have ho := h.ok s hm
  have hn := h.n
  refine addE_iff.2 ⟨h.prof, ⟨by have := ho.fm; omega, by have := ho.to; omega⟩, ho.to, h2, by have := ho.nd; omega, fun t ht => ?_⟩
  have q1 := h.top t ht
  have q2 := tak_rem t h.rise hf
  have q3 := tak_nn (L := remS id L) (fun u hu => h.ok u (mem_rem.1 hu).1) t
  have q4 := h.prof.bd ht
  have hnd := ho.nd
  unfold inW at q2 ⊢
  by_cases c1 : to ≤ t ∧ t < s.to
  · rw [if_pos c1]; rw [if_pos (by omega)] at q2; omega
  · rw [if_neg c1]; omega
theorem BkI.cut {N : Int} {F R : List StepD} {L : List SlotD} {T : List Int} {k : Nat} {s : SlotD} {id to : Int} (h : BkI N F L T k) (hf : fndS id L = Option.some s) (h1 : s.fm < to) (h2 : to ≤ s.to) (hR : Prof R) (hv : ∀ t, 0 ≤ t → valF 0 R t = valF 0 F t + inW to s.to s.nd t) :
    BkI N R (insS ⟨s.id, s.fm, to, s.nd⟩ (remS id L)) (to :: T) (k + 1) := by
  obtain ⟨hm, hid⟩ := fnd_some hf
  have ho := h.ok s hm
  have hno : fndS s.id (remS id L) = none := by rw [fnd_rem h.rise, if_pos hid]
  refine ⟨h.n, hR, rise_ins (rise_rem h.rise) (by have := ho.id; show 0 < s.id; omega) hno, fun u hu => ?_, fun t ht => ?_, ?_, fun u hu => ?_, by have := h.lt; simp only [List.length_cons]; omega, by have := h.ll; have := len_remY h.rise hf; rw [len_ins]; omega⟩
  · rcases mem_ins.1 hu with rfl | hu
    · exact ⟨ho.id, ho.fm, ⟨by have := ho.fm; show 0 ≤ to; omega, by have := ho.to; show to ≤ _; omega⟩, h1, ho.nd⟩
    · exact h.ok u (mem_rem.1 hu).1
  · rw [hv t ht, tak_ins]
    have q1 := h.top t ht
    have q2 := tak_rem t h.rise hf
    show valF 0 F t + inW to s.to s.nd t + (takV (remS id L) t + inW s.fm to s.nd t) ≤ N
    unfold inW at q2 ⊢
    by_cases c1 : to ≤ t ∧ t < s.to
    · rw [if_pos c1, if_neg (by omega)]; rw [if_pos (by omega)] at q2; omega
    · rw [if_neg c1]
      by_cases c2 : s.fm ≤ t ∧ t < to
      · rw [if_pos c2]; rw [if_pos (by omega)] at q2; omega
      · rw [if_neg c2]; rw [if_neg (by omega)] at q2; omega
  · have he := h.ends s hm
    exact ((h.chg.mono fun t ht => by simp [ht]).add (chg_inW (T := to :: T) (by simp) (by simp [he.2]))).of hv
  · rcases mem_ins.1 hu with rfl | hu
    · have he := h.ends s hm
      exact ⟨by simp [he.1], by simp⟩
    · have := h.ends u (mem_rem.1 hu).1; exact ⟨by simp [this.1], by simp [this.2]⟩
theorem BookM.fresh {w : World} {g m tb : Nat} {N : Int} {F : List StepD} {L : List SlotD} (h : BookM w g m N F L) (hg : tb ≠ g) (hm : tb ≠ m) (hF : ∀ A c, w.heap[g]? = some (.cells #[.int .i64 N, .map (some m), .slice A F.length c] 65 (0, 0)) → ∀ q off, A = some ⟨q, off, none⟩ → q ≠ tb) (o : Nat) (v : Value) :
    BookM (w.setCell ⟨tb, o, none⟩ v) g m N F L := by
  obtain ⟨A, c, h1, h2⟩ := h.blk
  refine ⟨⟨A, c, ?_, ?_⟩, ?_⟩
  · rw [Below.heap_setCell w ⟨tb, o, none⟩ v g (fun e => hg e.symm)]; exact h1
  · refine ⟨fun k s hk => ?_, h2.cap, h2.top, h2.nil⟩
    obtain ⟨b, off, e, c0, c1⟩ := h2.cells k s hk
    have hne := hF A c h1 b off e
    refine ⟨b, off, e, ?_, ?_⟩
    · unfold World.cell? at c0 ⊢; rw [Below.heap_setCell w ⟨tb, o, none⟩ v b (fun e => hne e)]; exact c0
    · unfold World.cell? at c1 ⊢; rw [Below.heap_setCell w ⟨tb, o, none⟩ v b (fun e => hne e)]; exact c1
  · obtain ⟨D, ho, hd⟩ := h.map.own
    exact ⟨D, ho.setCell (a := ⟨tb, o, none⟩) (fun e => hm e.symm) _, hd⟩
set_option maxHeartbeats 3200000 in
theorem cut_any (id to : Int) (hw : (Lit.int .i64 id).wf = true) (w : World) (g m : Nat) (N : Int) (F : List StepD) (L : List SlotD) (T : List Int) (k : Nat) (hI : BkI N F L T k) (hk : k ≤ 100) (hwf : ∀ s ∈ L, (Lit.int .i64 s.id).wf = true) (h : BookM w g m N F L) :
    Calls Try.prog 20 #[.pointer (some ⟨g, 0, none⟩), .int .i64 id, .int .i64 to] w fun e w' => ∃ e0 F' L', e = .returned (.int .i64 e0) ∧ CutO F L id to e0 F' L' ∧ BookM w' g m N F' L' ∧ Wr (GB g m) w w' := by
  obtain ⟨A, c, hs, c0, c1, c2, cf⟩ := h.cells
  have hlook := h.map.look hw
  have HIS := Lib.hid fun (W : World) => Clk.is_any to W
  cases hf : fndS id L with
  | none =>
    have hl := hlook.2 hf
    have HX := Lib.hid (al w (.cells #[.int .i64 0, .int .i64 0, .int .i64 0, .int .i64 0] 32))
    have HH := Lib.hid h; have HF := Lib.hid hf
    clear hlook hs c0 c2 cf h hf
    go_enter Try.func20, Try.ntmps20
    go_wp2
    go_ret
    exact ⟨4, F, L, rfl, Or.inl ⟨HF.out, rfl, rfl, rfl⟩, HH.out.below HX.out, Wr.of_below HX.out⟩
  | some s =>
    have hl := hlook.1 s hf
    obtain ⟨hm, hid⟩ := fnd_some hf
    have ho := hI.ok s hm
    have HX := Lib.hid (al w (.cells #[.int .i64 s.id, .int .i64 s.fm, .int .i64 s.to, .int .i64 s.nd] 32))
    have HBK := Lib.hid (heap_alloc_new w (.cells #[.int .i64 s.id, .int .i64 s.fm, .int .i64 s.to, .int .i64 s.nd] 32))
    have HH := Lib.hid h; have HF := Lib.hid hf; have HI := Lib.hid hI; have HGM := Lib.hid h.lt
    have HM1 := Lib.hid (h.below HX.out)
    have HID := Lib.hid hid; have HO := Lib.hid ho
    have hb1 := ho.fm; have hb2 := ho.to; have hb3 := ho.lt
    have k0 := (Dag.blk_cell HBK.out 0).trans rfl
    have k1 := (Dag.blk_cell HBK.out 1).trans rfl
    have k2 := (Dag.blk_cell HBK.out 2).trans rfl
    have k3 := (Dag.blk_cell HBK.out 3).trans rfl
    cases ht : Clk.isT to
    · rw [ht] at HIS
      have HT := Lib.hid ht
      clear hlook hs c0 c2 cf h hf hm hid ho ht
      go_enter Try.func20, Try.ntmps20
      go_wp2_with fail
      refine (HIS.out _).mono ?_
      rintro e w1 ⟨rfl, rfl⟩
      go_wp2
      go_ret
      exact ⟨2, F, L, rfl, Or.inr (Or.inl ⟨s, HF.out, Or.inl HT.out, rfl, rfl, rfl⟩), HM1.out, Wr.of_below HX.out⟩
    · rw [ht] at HIS
      have HT := Lib.hid ht
      have htb := Clk.isT_bd ht
      by_cases hc : s.to < to
      · clear hlook hs c0 c2 cf h hf hm hid ho ht
        go_enter Try.func20, Try.ntmps20
        go_wp2_with fail
        refine (HIS.out _).mono ?_
        rintro e w1 ⟨rfl, rfl⟩
        go_wp2
        go_ret
        exact ⟨2, F, L, rfl, Or.inr (Or.inl ⟨s, HF.out, Or.inr hc, rfl, rfl, rfl⟩), HM1.out, Wr.of_below HX.out⟩
      have hc' : to ≤ s.to := by omega
      by_cases hd : to ≤ s.fm
      · have HFR := Lib.hid fun (W : World) (hb : BookM W g m N F L) (A : Option Addr) (d : Nat) hA => free_any [id] W g m N F L T k hI hk hwf (fun x hx => by simp at hx; subst hx; exact hw) (by simp) A d hA hb
        clear hlook hs c0 c2 cf h hf hm hid ho ht
        go_enter Try.func20, Try.ntmps20
        go_wp2_with fail
        refine (HIS.out _).mono ?_
        rintro e w1 ⟨rfl, rfl⟩
        go_wp2_with fail
        have HZ : (w.alloc (.cells #[.int .i64 s.id, .int .i64 s.fm, .int .i64 s.to, .int .i64 s.nd] 32)).heap.size = w.heap.size + 1 := by simp
        generalize w.alloc (.cells #[.int .i64 s.id, .int .i64 s.fm, .int .i64 s.to, .int .i64 s.nd] 32) = w1 at HX HM1 HBK HZ k0 k1 k2 k3 ⊢
        rw [← HZ]
        have HY := Lib.hid (al w1 (.cells #[.int .i64 id] 3))
        refine (HFR.out _ (HM1.out.below HY.out) _ _ ?hA).mono ?_
        case hA =>
          intro i x hx
          obtain ⟨b, off, e, hc⟩ := (its_one w1 id 3).cells i x hx
          refine ⟨b, off, e, hc, ?_⟩
          injection e with e
          injection e with e
          subst e
          have := HM1.out.lt
          rintro (e | e) <;> omega
        rintro e w6 ⟨e0, F', M, rfl, hfo, hB6, hw6⟩
        have hfr : freeR [id] L = some (remS id L) := by simp only [freeR, HF.out]
        have HW6 := Lib.hid ((Wr.of_below (S := GB g m) (blw HX.out HY.out)).trans hw6)
        have HB6 := Lib.hid hB6
        rcases hfo with ⟨q1, _⟩ | ⟨G, q1, rfl, q3, q4, q5⟩
        · rw [hfr] at q1; cases q1
        rw [hfr] at q1
        injection q1 with q1
        subst q1
        have HQ := Lib.hid (And.intro q3 (And.intro q4 q5))
        clear q3 q4 q5 hB6 hw6 hfr
        go_wp2
        go_ret
        refine ⟨0, F', _, rfl, Or.inr (Or.inr (Or.inl ⟨s, HF.out, HT.out, hc', hd, rfl, HQ.out.2.1, fun t ht => ?_, rfl⟩)), HB6.out, HW6.out⟩
        rw [HQ.out.2.2 t ht]
        have z1 := HQ.out.1.tak t
        have z2 := tak_rem t HI.out.rise HF.out
        omega
      have hd' : s.fm < to := by omega
      have HAE := Lib.hid (cut_add hI hf hd' hc')
      have HLN := Lib.hid hI.len
      subst hid
      clear hlook hs c0 c2 cf h hf hm ho ht
      go_enter Try.func20, Try.ntmps20
      go_wp2_with fail
      refine (HIS.out _).mono ?_
      rintro e w1 ⟨rfl, rfl⟩
      go_wp2_with fail
      generalize w.alloc (.cells #[.int .i64 s.id, .int .i64 s.fm, .int .i64 s.to, .int .i64 s.nd] 32) = w1 at HX HM1 HBK k0 k1 k2 k3 ⊢
      have htg : w.heap.size ≠ g := by have := HGM.out.1; omega
      have htm : w.heap.size ≠ m := by have := HGM.out.2; omega
      have HTB := Lib.hid (And.intro htg htm)
      generalize htbe : w.heap.size = tb at HBK HTB k0 k1 k2 k3 ⊢
      obtain ⟨A1, c1', hs1, d0, d1, d2, df⟩ := HM1.out.cells
      have HS1 := Lib.hid hs1
      have HCF := Lib.hid fun (W : World) (hW : Below w1.heap.size w1 W) => And.intro (kp hW d2) (And.intro (kp hW k1) (And.intro (kp hW k2) (kp hW k3)))
      have HAD := Lib.hid fun (W : World) (hW : Below w1.heap.size w1 W) => addO_any F to s.to s.nd A1 F.length c1' rfl (by have := HLN.out; omega) W (HS1.out.below hW)
      unfold RetSO at HAD
      rw [HAE.out] at HAD
      have HAV := Lib.hid (add_yes HAE.out (by have := HLN.out; omega))
      obtain ⟨R, hR⟩ : ∃ R, addL F to s.to s.nd = R := ⟨_, rfl⟩
      rw [hR] at HAD HAV
      clear hs1 d0 d1 htg htm hR
      refine wp_region_X (Below w1.heap.size w1) 16 (by kernel_rfl) ?_
      refine wpAnyX_leadI (by kernel_rfl) ?hQ ?hS0 [0, 1, 2, 3, 4, 5, 6, 7, 8, 9] 7 _ _ (by kernel_rfl) ?_
      case hQ => intro c a d v w h; cases d <;> exact h
      case hS0 => exact (dr w1)
      iterate 10 (refine wpLeadI_read (v := ?_) _ rfl rfl (by rfl) ?_ ?_; rotate_left; (intro W hW; obtain ⟨q2, q3, q4, q5⟩ := HCF.out W hW; go_simp; (try with_reducible rfl)); try simp only [Act.put, List.setIfInBounds_toArray, List.set_cons_succ, List.set_cons_zero])
      simp only [wpLeadI]
      refine wpAnyX_one (i := 10) rfl (by kernel_rfl) ?_
      intro K1 hK1
      go_simp
      refine (HAD.out _ (dr w1)).mono ?_
      rintro e w2 ⟨A2, c2, rfl, hs2, hb2, hn2⟩
      have HB2 := Lib.hid (blw (dr w1) hb2)
      have HS2 := Lib.hid hs2
      have HN2 := Lib.hid hn2
      clear hs2 hb2 hn2
      refine hK1.out _ _ HB2.out ?_
      clear hK1 K1
      try simp only [Act.put, List.setIfInBounds_toArray, List.set_cons_succ, List.set_cons_zero]
      refine wpAnyX_pureI (by kernel_rfl) ?hQ ?hS0 [11, 12, 13, 14, 15] 1 _ _ (by kernel_rfl) ?_
      case hQ => intro c a d v w h; cases d <;> exact h
      case hS0 => exact HB2.out
      iterate 5 (refine wpLeadI_read (v := ?_) _ rfl rfl (by rfl) ?_ ?_; rotate_left; (intro W hW; clear hW; go_simp; (try with_reducible rfl)); try simp only [Act.put, List.setIfInBounds_toArray, List.set_cons_succ, List.set_cons_zero])
      simp only [wpLeadI]
      refine wpAnyX_last rfl (by kernel_rfl) (by kernel_rfl) (by kernel_rfl) ?_
      have HM2 := Lib.hid (HM1.out.below HB2.out)
      have hbk2 : w2.heap[tb]? = some (.cells #[.int .i64 s.id, .int .i64 s.fm, .int .i64 s.to, .int .i64 s.nd] 32 (0, 0)) := by rw [HB2.out.block tb (Dag.blk_lt HBK.out)]; exact HBK.out
      obtain ⟨A3, c3, hg2, _⟩ := HM2.out.blk
      obtain ⟨hM3, hW3⟩ := HM2.out.store (F' := R) rfl HS2.out
      have hbk3 : (w2.setCell ⟨g, 2, none⟩ (.slice A2 R.length c2)).heap[tb]? = some (.cells #[.int .i64 s.id, .int .i64 s.fm, .int .i64 s.to, .int .i64 s.nd] 32 (0, 0)) := by rw [Dag.blk_other HTB.out.1]; exact hbk2
      have hg3 := Dag.blk_set hg2 2 (.slice A2 R.length c2)
      have hM4 := hM3.fresh HTB.out.1 HTB.out.2 (fun A5 c5 e5 q off eq => by
        rw [hg3] at e5
        simp only [Option.some.injEq, Obj.cells.injEq, and_true] at e5
        have e6 := congrArg (fun a : Array Value => a[2]?) e5
        simp at e6
        have e7 := e6.1
        rw [← e7] at eq
        have z1 := HN2.out q off eq
        have z2 := Dag.blk_lt HBK.out
        have z3 : w1.drew.heap.size = w1.heap.size := rfl
        omega) 2 (.int .i64 to)
      have hbk4 := Dag.blk_set hbk3 2 (.int .i64 to)
      obtain ⟨_, _, _, _, _, g2, gf⟩ := HM2.out.cells
      have y2 := (Dag.blk_cell hbk3 2).trans rfl
      have yf := Dag.blk_frozen hbk3 2
      have hW4 : Wr (GB g m) w ((w2.setCell ⟨g, 2, none⟩ (.slice A2 R.length c2)).setCell ⟨tb, 2, none⟩ (.int .i64 to)) := by
        have h1 := ((Wr.of_below (S := GB g m) HX.out).trans (Wr.of_below HB2.out)).trans hW3
        refine ⟨h1.os, h1.tape, h1.output, by have := h1.size; simpa [World.setCell] using this, fun q hq hn => ?_⟩
        rw [Below.heap_setCell _ ⟨tb, 2, none⟩ _ q (fun e => by have : q = tb := e; omega)]
        exact h1.block q hq hn
      have HM4 := Lib.hid hM4; have HW4 := Lib.hid hW4; have HBK4 := Lib.hid hbk4
      clear hM4 hW4 hbk4 hg3 hM3 hW3 hg2 hbk2 hbk3 HAD HCF
      go_wp2_with fail
      generalize (w2.setCell ⟨g, 2, none⟩ (.slice A2 R.length c2)).setCell ⟨tb, 2, none⟩ (.int .i64 to) = w4 at HM4 HW4 HBK4 ⊢
      have j0 := (Dag.blk_cell HBK4.out 0).trans rfl
      have j1 := (Dag.blk_cell HBK4.out 1).trans rfl
      have j2 := (Dag.blk_cell HBK4.out 2).trans rfl
      have j3 := (Dag.blk_cell HBK4.out 3).trans rfl
      obtain ⟨_, _, _, _, p1, _, _⟩ := HM4.out.cells
      have HC4 := Lib.hid fun (W : World) (hW : Below w4.heap.size w4 W) => And.intro (kp hW p1) (And.intro (kp hW j0) (And.intro (kp hW j1) (And.intro (kp hW j2) (kp hW j3))))
      clear y2 yf g2 gf
      refine wp_region_R (Below w4.heap.size w4) 6 (by kernel_rfl) ?_
      refine wpAnyR_leadI (by kernel_rfl) ?hQ ?hS0 [0, 1, 2, 3, 4, 5] 1 _ _ (by kernel_rfl) ?_
      case hQ => intro c a d v w h; cases d <;> exact h
      case hS0 => exact dr w4
      iterate 6 (refine wpLeadI_read (v := ?_) _ rfl rfl (by rfl) ?_ ?_; rotate_left; (intro W hW; obtain ⟨q1, q2, q3, q4, q5⟩ := HC4.out W hW; go_simp; (try with_reducible rfl)); try simp only [Act.put, List.setIfInBounds_toArray, List.set_cons_succ, List.set_cons_zero])
      simp only [wpLeadI]
      refine wpAnyR_tail rfl (by kernel_rfl) ?_
      have HM5 := Lib.hid (HM4.out.below (dr w4))
      refine wpList_mput rfl (.tmp 63) (.tmp 64) (.tmp 65) rfl m L ⟨s.id, s.fm, to, s.nd⟩ rfl HM5.out.map HI.out.rise (by have := HI.out.ll; omega) rfl rfl (by have := HO.out.id; show 0 < s.id; omega) hw ?_
      intro w9 hm9 hg9
      obtain ⟨hM9, hW9⟩ := HM5.out.mapped hg9 hm9
      have HM9 := Lib.hid hM9
      have HW9 := Lib.hid ((HW4.out.trans (Wr.of_below (S := GB g m) (dr w4))).trans hW9)
      clear hM9 hW9 hm9 hg9
      go_wp2
      go_ret
      exact ⟨0, rfl, R, _, Or.inr (Or.inr (Or.inr ⟨s, HF.out, HT.out, hc', hd', rfl, HAV.out.prof, HAV.out.val, rfl⟩)), HM9.out, HW9.out⟩
end Go.Proofs.Ytapojmniokdjfaa.Bk

