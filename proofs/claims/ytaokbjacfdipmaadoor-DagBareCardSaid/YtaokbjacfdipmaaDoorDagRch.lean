/- What reached holds while it goes; visit. -/
import Derived.Test.YtaokbjacfdipmaaDoorDagColl
import Derived.Test.YtaokbjacfdipmaaDoorDagPlus
import Derived.Test.YtaokbjacfdipmaaDoorDagGet
namespace Go.Proofs.YtaokbjacfdipmaaDoor
open Go.RowKit Go.Shelf
set_option linter.unusedVariables false

structure Rch (n : Nat) (w0 : World) (bl b7 N : Nat) (lv fv : Value) (W : World) (ls : List Nat) (lw fw : Nat) : Prop where
  below : Below w0.heap.size w0 W
  lo : w0.heap.size ≤ bl ∧ w0.heap.size ≤ b7
  xl : W.heap[bl]? = some (.cells #[lv] 58 (0, 0))
  x7 : ∃ vo, W.heap[b7]? = some (.cells #[vo] 30 (0, 0)) ∧ OwnI W N vo (num ls)
  sl : SetAt W w0.heap.size n lv lw
  sf : SetAt W w0.heap.size n fv fw
  ne : lv.ownBlock ≠ fv.ownBlock
  nn : b7 < N ∧ w0.heap.size ≤ N ∧ N ≤ W.heap.size

section
variable {n : Nat} {w0 : World} {bl b7 N : Nat} {lv fv : Value} {W W' : World} {ls : List Nat} {lw fw : Nat}
theorem Rch.quiet (h : Rch n w0 bl b7 N lv fv W ls lw fw) (hq : Quiet W W') : Rch n w0 bl b7 N lv fv W' ls lw fw := by
  obtain ⟨vo, h7, ho⟩ := h.x7
  have e := hq.2.2.2
  have hb : Below w0.heap.size w0 W' := h.below.trans ⟨hq.1, hq.2.1, hq.2.2.1, by rw [e]; exact Nat.le_refl _, fun k _ => by rw [e]⟩
  exact ⟨hb, h.lo, by rw [e]; exact h.xl, ⟨vo, by rw [e]; exact h7, ho.keep fun b _ => by rw [e]⟩, h.sl.keep fun b _ _ => by rw [e], h.sf.keep fun b _ _ => by rw [e], h.ne, by rw [e]; exact h.nn⟩
theorem Rch.word (hs : SetAt W w0.heap.size n lv lw) {g : Nat} (hg : lv = .slice (some ⟨g, 0, none⟩) 1 1) (hn : n ≠ 0) : w0.heap.size ≤ g ∧ Word W g lw := by
  obtain ⟨⟨g', e', hb', hw'⟩, _⟩ := hs
  rw [if_neg hn, hg] at e'
  injection e' with e'
  injection e' with e'
  injection e' with e'
  subst e'
  exact ⟨hb', hw' hn⟩
theorem Rch.wrL (h : Rch n w0 bl b7 N lv fv W ls lw fw) {g x : Nat} (hg : lv = .slice (some ⟨g, 0, none⟩) 1 1) (hn : n ≠ 0) (hw : Wr W W' g 0 (.int .u64 (x : Int))) (hx : x < 2 ^ n) : Rch n w0 bl b7 N lv fv W' ls x fw := by
  obtain ⟨vo, h7, ho⟩ := h.x7
  obtain ⟨hb', hwd⟩ := Rch.word h.sl hg hn
  have kp : ∀ {b : Nat} {cs' : Array Value} {t : TypeId}, W.heap[b]? = some (.cells cs' t (0, 0)) → t ≠ 62 → W'.heap[b]? = W.heap[b]? := fun hb ht => hw.block (blk_ne hb hwd.blk ht)
  refine ⟨hw.below h.below hb', h.lo, (kp h.xl (by decide)).trans h.xl, ⟨vo, (kp h7 (by decide)).trans h7, ho.keep fun b e => ?_⟩, ⟨⟨g, by rw [if_neg hn, hg], hb', fun _ => hw.word hwd⟩, hx⟩, h.sf.keep fun b e _ => hw.block fun e' => ?_, h.ne, by rw [hw.size]; exact h.nn⟩
  · obtain ⟨cs, hc⟩ := ho.typed e
    exact kp hc (by decide)
  · subst e'
    exact h.ne (by rw [e, hg]; rfl)
theorem Rch.wrF (h : Rch n w0 bl b7 N lv fv W ls lw fw) {g x : Nat} (hg : fv = .slice (some ⟨g, 0, none⟩) 1 1) (hn : n ≠ 0) (hw : Wr W W' g 0 (.int .u64 (x : Int))) (hx : x < 2 ^ n) : Rch n w0 bl b7 N lv fv W' ls lw x := by
  obtain ⟨vo, h7, ho⟩ := h.x7
  obtain ⟨hb', hwd⟩ := Rch.word h.sf hg hn
  have kp : ∀ {b : Nat} {cs' : Array Value} {t : TypeId}, W.heap[b]? = some (.cells cs' t (0, 0)) → t ≠ 62 → W'.heap[b]? = W.heap[b]? := fun hb ht => hw.block (blk_ne hb hwd.blk ht)
  refine ⟨hw.below h.below hb', h.lo, (kp h.xl (by decide)).trans h.xl, ⟨vo, (kp h7 (by decide)).trans h7, ho.keep fun b e => ?_⟩, h.sl.keep fun b e _ => hw.block fun e' => ?_, ⟨⟨g, by rw [if_neg hn, hg], hb', fun _ => hw.word hwd⟩, hx⟩, h.ne, by rw [hw.size]; exact h.nn⟩
  · obtain ⟨cs, hc⟩ := ho.typed e
    exact kp hc (by decide)
  · subst e'
    exact h.ne (by rw [e, hg]; rfl)
theorem Rch.append (h : Rch n w0 bl b7 N lv fv W ls lw fw) {vo v' : Value} {w1 : World} {tmp : Obj} {us : List Value} {x : Nat}
    (h7 : W.heap[b7]? = some (.cells #[vo] 30 (0, 0))) (hg : (W.alloc tmp).grownBy w1 vo.ownBlock) (hown : Own1 w1 N 3 v' us) (hus : us = ints (num ls) ++ [.int .i64 (x : Int)]) :
    Rch n w0 bl b7 N lv fv (w1.setCell ⟨b7, 0, none⟩ v') (ls ++ [x]) lw fw ∧ w1.cell? ⟨b7, 0, none⟩ = some vo ∧ w1.frozen? ⟨b7, 0, none⟩ = false := by
  subst hus
  obtain ⟨vo', h7', ho⟩ := h.x7
  have e5 := h7'.symm.trans h7
  injection e5 with e5
  injection e5 with e5
  have e5' : vo' = vo := by simpa using e5
  subst e5'
  have nrow : ∀ {b : Nat} {cs' : Array Value} {t : TypeId}, W.heap[b]? = some (.cells cs' t (0, 0)) → t ≠ 3 → vo'.ownBlock ≠ some b := by
    intro b cs' t hb ht e
    obtain ⟨cs, hc⟩ := ho.typed e
    exact blk_ne hb hc ht rfl
  have k1 : ∀ {b : Nat} {cs' : Array Value} {t : TypeId}, W.heap[b]? = some (.cells cs' t (0, 0)) → t ≠ 3 → w1.heap[b]? = W.heap[b]? := by
    intro b cs' t hb ht
    rw [hg.block b (Nat.lt_of_lt_of_le (blk_lt hb) (by simp)) (fun e => nrow hb ht e.symm)]
    exact Below.heap_alloc W tmp b (blk_lt hb)
  have kp : ∀ {b : Nat} {cs' : Array Value} {t : TypeId}, W.heap[b]? = some (.cells cs' t (0, 0)) → t ≠ 3 → t ≠ 30 → (w1.setCell ⟨b7, 0, none⟩ v').heap[b]? = W.heap[b]? := fun hb ht ht' => by rw [blk_other (blk_ne hb h7' ht')]; exact k1 hb ht
  have h71 := (k1 h7' (by decide)).trans h7'
  have hbl : Below w0.heap.size W (w1.setCell ⟨b7, 0, none⟩ v') :=
    (((Below.refl _ W).alloc h.below.size tmp).grown hg (by simp; have := h.below.size; omega) fun j e => Nat.le_trans h.nn.2.1 (ho.lt e).1).setCell (p := ⟨b7, 0, none⟩) h.lo.2 _
  refine ⟨⟨h.below.trans hbl, h.lo, (kp h.xl (by decide) (by decide)).trans h.xl, ⟨v', by have := blk_set h71 0 v'; simpa using this, ?_⟩, h.sl.keep' fun b x e hw => kp hw.blk (by decide) (by decide), h.sf.keep' fun b x e hw => kp hw.blk (by decide) (by decide), h.ne, h.nn.1, h.nn.2.1, Nat.le_trans h.nn.2.2 hbl.size⟩, ?_, blk_frozen h71 0⟩
  · rw [num_app]
    show Own1 _ _ _ _ (ints (num ls ++ num [x]))
    rw [ints_app]
    exact hown.keep fun b e => blk_other fun e' => by
      subst e'
      obtain ⟨cs, hc⟩ := hown.typed e
      exact blk_ne h71 hc (by decide) rfl
  · have := blk_cell h71 0
    simpa using this
end

def Lst (n lw : Nat) (ls : List Nat) : Prop := ls.Nodup ∧ (∀ u ∈ ls, u < n) ∧ ∀ i, i < n → lw.testBit i = decide (i ∈ ls)
theorem Lst.len {n lw : Nat} {ls : List Nat} (h : Lst n lw ls) : ls.length ≤ n := nodup_len h.1 h.2.1
def RetV (n : Nat) (w0 : World) (bl b7 N : Nat) (lv fv : Value) (ls : List Nat) (fw : Nat) (e : Ending) (w' : World) : Prop :=
  (∃ v, e = .returned v) ∧ ∃ lw, Rch n w0 bl b7 N lv fv w' ls lw fw ∧ Lst n lw ls

set_option maxHeartbeats 1600000 in
theorem visit_any (n : Nat) (w0 : World) (bl b7 N : Nat) (lv fv : Value) (W : World) (ls : List Nat) (lw fw u : Nat) (hn : n ≤ 30) (h : Rch n w0 bl b7 N lv fv W ls lw fw) (hl : Lst n lw ls) (hu : u < n) :
    Calls Tryd.prog 47 #[.int .i64 (u : Int), .pointer (some ⟨bl, 0, none⟩), .pointer (some ⟨b7, 0, none⟩)] W (RetV n w0 bl b7 N lv fv (insL ls u) fw) := by
  obtain ⟨g, eg, _, hwd⟩ := h.sl.open_ hu
  subst eg
  have HLT : Hid (lw < 2 ^ n) := Lib.hid h.sl.lt
  have HLT' : Hid (lw < 1073741824) := Lib.hid (Nat.lt_of_lt_of_le HLT.out (Nat.pow_le_pow_right (n := 2) (by decide) hn))
  have hcl := blk_cell h.xl 0
  simp only [List.getElem?_toArray, List.getElem?_cons_zero] at hcl
  have H := Lib.hid h
  have HL := Lib.hid hl
  have HW := Lib.hid hwd
  clear h hl hwd
  by_cases hin : u ∈ ls
  · have HI : Hid (insL ls u = ls) := Lib.hid (insL_in hin)
    have HB : Hid (lw.testBit u = true) := Lib.hid (by rw [HL.out.2.2 u hu]; simp [hin])
    clear hin
    rw [HI.out]
    go_enter Tryd.func47, Tryd.ntmps47
    go_wp2_with fail
    refine (has_any g u lw _ HW.out (by omega) HLT'.out true HB.out).mono ?_
    rintro e W1 ⟨rfl, hq⟩
    have HQ := Lib.hid hq; clear hq
    go_wp2_with fail
    go_end0
    exact ⟨⟨_, rfl⟩, lw, H.out.quiet HQ.out, HL.out⟩
  · have HI : Hid (insL ls u = ls ++ [u]) := Lib.hid (insL_out hin)
    have HB : Hid (lw.testBit u = false) := Lib.hid (by rw [HL.out.2.2 u hu]; simp [hin])
    have HIN := Lib.hid hin
    clear hin
    rw [HI.out]
    go_enter Tryd.func47, Tryd.ntmps47
    go_wp2_with fail
    refine (has_any g u lw _ HW.out (by omega) HLT'.out false HB.out).mono ?_
    rintro e W1 ⟨rfl, hq⟩
    have H1 := Lib.hid (H.out.quiet hq)
    have HW1 := Lib.hid (Word.keep HW.out (by rw [hq.2.2.2]))
    have hcl1 := blk_cell H1.out.xl 0
    simp only [List.getElem?_toArray, List.getElem?_cons_zero] at hcl1
    clear hq
    go_wp2_with fail
    refine (add_any g u lw _ HW1.out (by omega) HLT'.out).mono ?_
    rintro e W2 ⟨⟨v2, rfl⟩, hwr⟩
    have H2 := Lib.hid (H1.out.wrL rfl (by omega) hwr (or_lt HLT.out hu))
    clear hwr
    obtain ⟨vo, h7, ho⟩ := H2.out.x7
    have c7 := blk_cell h7 0
    have f7 := blk_frozen h7 0
    simp only [List.getElem?_toArray, List.getElem?_cons_zero] at c7
    have H7 := Lib.hid h7
    have HO := Lib.hid ho
    have hll : (ints (num ls)).length ≤ 30 := by rw [ints_len, num_len]; exact Nat.le_trans HL.out.len hn
    have hN := H2.out.nn.2.2
    clear h7 ho
    go_wp2_with (at_builtin; refine wpList_appg rfl _ _ 30 3 (.int .i64 0) 8 Tryd.underlying30 info_int rfl (by decide) rfl N vo (ints (num ls)) rfl (HO.out.below ((Below.refl _ _).alloc (Nat.le_refl _) _)) (some ⟨W2.heap.size, 0, none⟩) 1 1 [.int .i64 (u : Int)] rfl rfl (Sl.one rfl) (by simp [Value.oneCell']) (by simp; omega) (by simp; omega) ?_; intro l A9 c9 w9 el ho9 hg9 _ _; obtain ⟨hap, hc9, hf9⟩ := H2.out.append H7.out hg9 ho9 el; have HAP := Lib.hid hap; clear hap ho9 hg9 el)
    go_end0
    refine ⟨⟨_, rfl⟩, _, HAP.out, ?_, ?_, fun i hi => ?_⟩
    · have := insL_nodup (u := u) HL.out.1
      rwa [HI.out] at this
    · intro v hv
      rcases List.mem_append.1 hv with hv | hv
      · exact HL.out.2.1 v hv
      · simp at hv; subst hv; exact hu
    · rw [or_bit, HL.out.2.2 i hi, Bool.eq_iff_iff]
      simp

end Go.Proofs.YtaokbjacfdipmaaDoor
