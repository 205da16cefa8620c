/- Layer 11: what is told of something that is done. -/
import Derived.Test.YtapojmniokdjfaaBkMove
import Derived.Test.YtapojmniokdjfaaBkArg
namespace Go.Proofs.Ytapojmniokdjfaa.Bk
open Go.RowKit Go.Shelf
open Stp (inW blw al dr drN kp Stp)
set_option linter.unusedVariables false
set_option maxRecDepth 100000

/-- a book after something was done -/
structure DoneO (N : Int) (F : List StepD) (L : List SlotD) (k : Nat) (d : DoD) (e0 : Int) (F' : List StepD) (L' : List SlotD) : Prop where
  inv : ∃ T', BkI N F' L' T' (k + 1)
  wf : ∀ s ∈ L', (Lit.int .i64 s.id).wf = true
  val : d.kd ≠ 5 ∨ e0 ≠ 0 → ∀ t, 0 ≤ t → valF 0 F' t + takV L' t = valF 0 F t + takV L t
def RetD (N : Int) (F : List StepD) (L : List SlotD) (k : Nat) (d : DoD) (g m : Nat) (w : World) (e : Ending) (w' : World) : Prop :=
  ∃ A c ids e0 F' L', e = .returned (.tuple #[.slice A (List.length (α := Int) ids) c, .int .i64 e0]) ∧ DoneO N F L k d e0 F' L' ∧ Its w' A ids ∧ ids.length ≤ 100 ∧ BookM w' g m N F' L' ∧ Wr (GB g m) w w'
theorem wf_ins {s : SlotD} {L : List SlotD} {id : Int} (h : ∀ s ∈ L, (Lit.int .i64 s.id).wf = true) (hs : (Lit.int .i64 s.id).wf = true) : ∀ u ∈ insS s (remS id L), (Lit.int .i64 u.id).wf = true := fun u hu => by
  rcases mem_ins.1 hu with rfl | hu
  · exact hs
  · exact h u (mem_rem.1 hu).1
section
variable {N : Int} {F F' : List StepD} {L L' M : List SlotD} {T : List Int} {k : Nat} {d : DoD} {e0 : Int}
theorem done_same (hI : BkI N F L T k) (hwf : ∀ s ∈ L, (Lit.int .i64 s.id).wf = true) : DoneO N F L k d e0 F L := ⟨⟨T, hI.up⟩, hwf, fun _ t _ => rfl⟩
theorem done_take (hI : BkI N F L T k) (hk : k ≤ 100) (hwf : ∀ s ∈ L, (Lit.int .i64 s.id).wf = true) (hd : (Lit.int .i64 d.s.id).wf = true) : DoneO N F L k d e0 (takeF N F L d.s) (takeL N F L d.s) := by
  unfold takeF takeL
  by_cases h : takeE N F L d.s = 0
  · rw [if_pos h, if_pos h]
    have hy := takeE_iff.1 h
    refine ⟨⟨_, hI.take hk hy⟩, fun u hu => ?_, fun _ t ht => ?_⟩
    · rcases mem_ins.1 hu with rfl | hu
      · exact hd
      · exact hwf u hu
    · have hv := Stp.add_yes hy.add (by have := hI.len; omega)
      rw [hv.val t ht, tak_ins, inW_neg]; omega
  · rw [if_neg h, if_neg h]
    exact done_same hI hwf
theorem done_free (hI : BkI N F L T k) (hwf : ∀ s ∈ L, (Lit.int .i64 s.id).wf = true) {ids : List Int} (h : FreeO F L ids e0 F' M) : DoneO N F L k d e0 F' M := by
  rcases h with ⟨_, _, rfl, rfl⟩ | ⟨G, _, _, h3, h4, h5⟩
  · exact done_same hI hwf
  · exact ⟨⟨T, (hI.some h3 h4 h5).up⟩, fun u hu => hwf u (h3.memM hu), fun _ t ht => by rw [h5 t ht]; have := h3.tak t; omega⟩
theorem done_cut (hI : BkI N F L T k) (hwf : ∀ s ∈ L, (Lit.int .i64 s.id).wf = true) {id to : Int} (h : CutO F L id to e0 F' L') : DoneO N F L k d e0 F' L' := by
  rcases h with ⟨_, _, rfl, rfl⟩ | ⟨s, _, _, _, rfl, rfl⟩ | ⟨s, hf, _, _, _, _, hP, hv, rfl⟩ | ⟨s, hf, _, h2, h1, _, hP, hv, rfl⟩
  · exact done_same hI hwf
  · exact done_same hI hwf
  · exact ⟨⟨T, (hI.free hf hP hv).up⟩, fun u hu => hwf u (mem_rem.1 hu).1, fun _ t ht => by rw [hv t ht]; have := tak_rem t hI.rise hf; omega⟩
  · refine ⟨⟨_, hI.cut hf h1 h2 hP hv⟩, wf_ins hwf (hwf s (fnd_some hf).1), fun _ t ht => ?_⟩
    rw [hv t ht, tak_ins]
    have q2 := tak_rem t hI.rise hf
    show valF 0 F t + inW to s.to s.nd t + (takV (remS id L) t + inW s.fm to s.nd t) = valF 0 F t + takV L t
    unfold inW at q2 ⊢
    by_cases c1 : to ≤ t ∧ t < s.to
    · rw [if_pos c1, if_neg (by omega)]; rw [if_pos (by omega)] at q2; omega
    · rw [if_neg c1]
      by_cases c2 : s.fm ≤ t ∧ t < to
      · rw [if_pos c2]; rw [if_pos (by omega)] at q2; omega
      · rw [if_neg c2]; rw [if_neg (by omega)] at q2; omega
theorem done_move (hI : BkI N F L T k) (hwf : ∀ s ∈ L, (Lit.int .i64 s.id).wf = true) {id fm : Int} (h : MoveO F L id fm e0 F' L') : DoneO N F L k d e0 F' L' := by
  rcases h with ⟨_, _, rfl, rfl⟩ | ⟨s, _, _, _, rfl, rfl⟩ | ⟨s, _, _, _, _, _, rfl, rfl⟩ | ⟨s, hf, h1, h2, _, hP, hv, rfl⟩
  · exact done_same hI hwf
  · exact done_same hI hwf
  · exact done_same hI hwf
  · have hlt := (hI.ok s (fnd_some hf).1).lt
    refine ⟨⟨_, hI.move hf (Clk.isT_bd h1).1 (by omega) h2 hP hv⟩, wf_ins hwf (hwf s (fnd_some hf).1), fun _ t ht => ?_⟩
    rw [hv t ht, tak_ins, inW_neg]
    have q2 := tak_rem t hI.rise hf
    show valF 0 F t + inW s.fm s.to s.nd t + -inW fm (fm + (s.to - s.fm)) s.nd t + (takV (remS id L) t + inW fm (fm + (s.to - s.fm)) s.nd t) = valF 0 F t + takV L t
    omega
end
set_option maxHeartbeats 3200000 in
theorem done_any (d : DoD) (hd : (Lit.int .i64 d.s.id).wf = true) (w : World) (g m : Nat) (N : Int) (F : List StepD) (L : List SlotD) (T : List Int) (k : Nat) (hI : BkI N F L T k) (hk : k ≤ 100) (hwf : ∀ s ∈ L, (Lit.int .i64 s.id).wf = true) (h : BookM w g m N F L) :
    Calls Try.prog 11 #[.pointer (some ⟨g, 0, none⟩), .agg #[.int .i64 d.kd, .int .i64 d.s.id, .int .i64 d.s.fm, .int .i64 d.s.to, .int .i64 d.s.nd]] w (RetD N F L k d g m w) := by
  have hbk := heap_alloc_new w (.cells #[.int .i64 d.kd, .int .i64 d.s.id, .int .i64 d.s.fm, .int .i64 d.s.to, .int .i64 d.s.nd] 34)
  have k0 := (Dag.blk_cell hbk 0).trans rfl
  have k1 := (Dag.blk_cell hbk 1).trans rfl
  have k2 := (Dag.blk_cell hbk 2).trans rfl
  have k3 := (Dag.blk_cell hbk 3).trans rfl
  have k4 := (Dag.blk_cell hbk 4).trans rfl
  have HX := Lib.hid (al w (.cells #[.int .i64 d.kd, .int .i64 d.s.id, .int .i64 d.s.fm, .int .i64 d.s.to, .int .i64 d.s.nd] 34))
  have HM := Lib.hid (h.below HX.out)
  have HI := Lib.hid hI; have HWF := Lib.hid hwf
  have HZ : (w.alloc (.cells #[.int .i64 d.kd, .int .i64 d.s.id, .int .i64 d.s.fm, .int .i64 d.s.to, .int .i64 d.s.nd] 34)).heap.size = w.heap.size + 1 := by simp
  have HT := Lib.hid fun (W : World) (hb : BookM W g m N F L) => take_any d.s hd W g m N F L T k hI hk hb
  have HF := Lib.hid fun (W : World) (hb : BookM W g m N F L) (A : Option Addr) (c : Nat) hA => free_any [d.s.id] W g m N F L T k hI hk hwf (fun x hx => by simp at hx; subst hx; exact hd) (by simp) A c hA hb
  have HC := Lib.hid fun (W : World) (hb : BookM W g m N F L) => cut_any d.s.id d.s.to hd W g m N F L T k hI hk hwf hb
  have HV := Lib.hid fun (W : World) (hb : BookM W g m N F L) => move_any d.s.id d.s.fm hd W g m N F L T k hI hk hb
  have HO := Lib.hid fun (W : World) (hb : BookM W g m N F L) (ho : outB N d.s.fm d.s.to d.s.nd = true) => out_yes d.s.fm d.s.to d.s.nd W g m N F L T k hI hk hwf hb ho
  have HOn := Lib.hid fun (W : World) (hb : BookM W g m N F L) (ho : outB N d.s.fm d.s.to d.s.nd = false) => out_no d.s.fm d.s.to d.s.nd W g m N F L T k hI hk hwf hb ho
  clear hbk h
  by_cases h1 : d.kd = 1
  · have hb : (d.kd == 1) = true := by rw [beq_iff_eq]; exact h1
    clear h1
    go_enter Try.func11, Try.ntmps11
    go_wp2_with fail
    refine (HT.out _ HM.out).mono ?_
    unfold RetT
    rintro e w1 ⟨rfl, hB1, hW1⟩
    go_wp2
    go_ret2
    exact ⟨none, 0, [], _, _, _, rfl, done_take HI.out hk HWF.out hd, Its.nil _ _, by simp, hB1, (Wr.of_below HX.out).trans hW1⟩
  have hb1 : (d.kd == 1) = false := by rw [beq_eq_false_iff_ne]; exact h1
  by_cases h2 : d.kd = 2
  · have hb : (d.kd == 2) = true := by rw [beq_iff_eq]; exact h2
    clear h2
    go_enter Try.func11, Try.ntmps11
    go_wp2_with fail
    generalize w.alloc (.cells #[.int .i64 d.kd, .int .i64 d.s.id, .int .i64 d.s.fm, .int .i64 d.s.to, .int .i64 d.s.nd] 34) = w1 at HX HM HZ k0 k1 k2 k3 k4 ⊢
    rw [← HZ]
    have HY := Lib.hid (al w1 (.cells #[.int .i64 d.s.id] 3))
    refine (HF.out _ (HM.out.below HY.out) _ _ ?hA).mono ?_
    case hA =>
      intro i x hx
      obtain ⟨b, off, e, hc⟩ := (its_one w1 d.s.id 3).cells i x hx
      refine ⟨b, off, e, hc, ?_⟩
      injection e with e
      injection e with e
      subst e
      have := HM.out.lt
      rintro (e | e) <;> omega
    rintro e w2 ⟨e0, F', M, rfl, hfo, hB2, hW2⟩
    go_wp2
    go_ret2
    exact ⟨none, 0, [], _, _, _, rfl, done_free HI.out HWF.out hfo, Its.nil _ _, by simp, hB2, (Wr.of_below (blw HX.out HY.out)).trans hW2⟩
  have hb2 : (d.kd == 2) = false := by rw [beq_eq_false_iff_ne]; exact h2
  by_cases h3 : d.kd = 3
  · have hb : (d.kd == 3) = true := by rw [beq_iff_eq]; exact h3
    clear h3
    go_enter Try.func11, Try.ntmps11
    go_wp2_with fail
    refine (HC.out _ HM.out).mono ?_
    rintro e w1 ⟨e0, F', M, rfl, hco, hB1, hW1⟩
    go_wp2
    go_ret2
    exact ⟨none, 0, [], _, _, _, rfl, done_cut HI.out HWF.out hco, Its.nil _ _, by simp, hB1, (Wr.of_below HX.out).trans hW1⟩
  have hb3 : (d.kd == 3) = false := by rw [beq_eq_false_iff_ne]; exact h3
  by_cases h5 : d.kd = 5
  · have hb : (d.kd == 5) = true := by rw [beq_iff_eq]; exact h5
    have H5 := Lib.hid h5
    clear h5
    cases ho : outB N d.s.fm d.s.to d.s.nd
    · go_enter Try.func11, Try.ntmps11
      go_wp2_with fail
      refine (HOn.out _ HM.out ho).mono ?_
      rintro e w1 ⟨rfl, hB1, hW1⟩
      go_wp2
      go_ret2
      exact ⟨none, 0, [], _, _, _, rfl, done_same HI.out HWF.out, Its.nil _ _, by simp, hB1, (Wr.of_below HX.out).trans hW1⟩
    · go_enter Try.func11, Try.ntmps11
      go_wp2_with fail
      refine (HO.out _ HM.out ho).mono ?_
      rintro e w1 ⟨A, c, F', L', ids, rfl, hI1, hP, hB1, hW1⟩
      obtain ⟨_, hi1⟩ := its_own hI1
      have HP := Lib.hid hP
      have hk1 : 1 ≤ d.s.nd := by
        unfold outB at ho
        simp only [Bool.and_eq_true, decide_eq_true_eq] at ho
        exact ho.2.1
      clear ho hP hI1
      go_wp2
      go_ret2
      refine ⟨A, c, ids, _, F', L', rfl, ⟨⟨_, HI.out.out hk1 HP.out⟩, fun s hs => HWF.out s ((HP.out.mem s).1 hs).1, fun hq => ?_⟩, hi1, by have := HP.out.len; have := HI.out.ll; omega, hB1, (Wr.of_below HX.out).trans hW1⟩
      rcases hq with q | q
      · exact absurd H5.out q
      · exact absurd rfl q
  have hb5 : (d.kd == 5) = false := by rw [beq_eq_false_iff_ne]; exact h5
  go_enter Try.func11, Try.ntmps11
  go_wp2_with fail
  refine (HV.out _ HM.out).mono ?_
  rintro e w1 ⟨e0, F', M, rfl, hmo, hB1, hW1⟩
  go_wp2
  go_ret2
  exact ⟨none, 0, [], _, _, _, rfl, done_move HI.out HWF.out hmo, Its.nil _ _, by simp, hB1, (Wr.of_below HX.out).trans hW1⟩
end Go.Proofs.Ytapojmniokdjfaa.Bk

