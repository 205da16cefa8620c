/- Layer Dag over: sets of at most 4096 numbers asked, collected; what is come to: reached, Below. -/
import Derived.Test.YtgejonmjmieglaaDoorMDge
import Derived.Test.YtgejonmjmieglaaDoorMDag
import Derived.RangeFuncLeaves
import Derived.Lib.SliceRun
import Derived.Lib.TrailingZeros
namespace Go.Proofs.YtgejonmjmieglaaDoor.Dag
open Go.RowKit Go.Shelf
set_option linter.unusedVariables false
set_option maxRecDepth 100000
attribute [local go_sem] Oper.semAt_some


/-- a new list, of the call's own -/
def RetC (w : World) (xs : List Int) (e : Ending) (w' : World) : Prop := ∃ A c, e = .returned (.slice A xs.length c) ∧ OwnI w' w.heap.size (.slice A xs.length c) xs ∧ Below w.heap.size w w'

set_option maxRecDepth 100000 in
set_option maxHeartbeats 2000000 in
theorem append_in (m N wd base : Nat) (v : Value) (w : World) (hN : N ≤ 4096) (hs : SetAt w base N v wd) (hT : Tab w) :
    CallsIn Fence.wide m Tryd.prog 103 #[.slice none 0 0, .func (.func 91) #[v] #[]] w (RetC w (num (bitsL N wd))) := by
  obtain ⟨i0, hi0, hz0, hz1, hz2⟩ := info_parts info_int
  have HT := Lib.hid hT; clear hT
  have HS := Lib.hid hs; clear hs
  refine callsIn_of_wp_marks Tryd.func103 rfl trivial ?_ rfl
  simp only [Tryd.ntmps103, List.size_toArray, List.length_cons, List.length_nil, Nat.reduceAdd, Nat.reduceSub, Array.replicate_succ, Array.replicate_zero, List.push_toArray, List.append_toArray, List.nil_append, List.cons_append]
  gi_wp2_with fail
  have bO := Boxed.new w 25 (.slice none 0 0)
  have hB0 : Below w.heap.size w (w.alloc (.cells #[.slice none 0 0] 25)) := (Below.refl _ w).alloc (Nat.le_refl _) _
  refine range_set v base N wd rfl rfl hN
    (fun pre W => (∃ vo, Boxed W w.heap.size 25 vo ∧ W.ownsRow w.heap.size 3 1 vo (ints (num pre)).length (ints (num pre)) ∧ True) ∧ Below w.heap.size w W) (fun _ _ _ => False)
    (OwnFrom.and (Own.from (holdsRow_own w.heap.size w.heap.size 25 3 1 (fun pre => (ints (num pre)).length) (fun pre => ints (num pre)) (fun _ _ => True)) _) (ownFrom_below (Nat.le_refl _) (by simp)))
    (fun _ _ _ _ _ hs _ _ => hs) ?tab (fun pre W h => HS.out.below h.2) ⟨⟨_, bO, World.ownsRow_nil _ _ _ _, trivial⟩, hB0⟩
    (fun x => { tmps := #[.slice none 0 0, .func (.func 91) #[v] #[], .pointer (some ⟨w.heap.size, 0, none⟩), undef, .slice none 0 0, .int .i64 (x : Int), .func (.func 91) #[v] #[], .int .i64 (x : Int), undef, undef, undef, undef, undef], defers := [] }) ?assign ?body ?done ?stop
  case tab =>
    rintro pre X ⟨_, hB⟩
    exact HT.out.below hB HT.out.lt
  case assign =>
    intro l x X K hK
    gi_wp2
    exact hK
  case body =>
    rintro l pre x X ⟨⟨vo, hv, hrow, _⟩, hB⟩ ⟨post, hpost⟩
    have hc := hv.cell
    have hpl : (ints (num pre)).length ≤ 4096 := by
      rw [ints_len, num_len]
      have := bitsL_len N wd
      rw [hpost] at this
      simp at this
      omega
    have HPOST := Lib.hid hpost; clear hpost
    gi_wp2_with (gi_at_builtin; refine wpListIn_append_own _ rfl _ _ 25 rfl w.heap.size 3 i0 (.int .i64 0) 1 8 Tryd.underlying25 hi0 hz0 hz1 hz2 rfl (by decide) _ _ _ rfl (hrow.alloc _) ⟨X.heap.size, 0, none⟩ 1 1 [.int .i64 (x : Int)] rfl rfl (cell_one_new _ _ _) (by simp [Value.oneCell']) (by simp only [maxLen]; omega) (by omega) (by have := hB.size; simp; omega) ?_; intro v' w1 hown' hgrow _; obtain ⟨g', cap', rfl⟩ := ownsRow_succ hown'; obtain ⟨hv1, hv2, hr2, hk2, hb2⟩ := hv.appended (by decide) hrow hB.size (Nat.le_refl _) hown' hgrow; have hc1 := hv1.cell; have hf1 := hv1.frozen)
    refine ⟨hk2, trivial, ⟨_, hv2, ?_, trivial⟩, hB.trans hb2⟩
    rw [num_app, ints_app, List.length_append]
    exact hr2
  case done =>
    rintro D X hD ⟨⟨vo, hv, hrow, _⟩, hB⟩ hK
    have hc := hv.cell
    obtain ⟨A, c, rfl, hi⟩ := OwnI.ints (w := X) (base := w.heap.size) (v := vo) (xs := num (bitsL N wd)) hrow
    gi_wp2_with fail
    refine ⟨by simp, .inl ⟨_, _, rfl, run_takeDeferred hK, ?_⟩⟩
    refine ⟨_, results_tmp rfl _ _ _, A, c, rfl, ?_, hB.trans (belowK_b (w := w) (Nat.le_refl _) X D _ _ (by simp at hD; omega) hK rfl rfl)⟩
    exact ownsRow_putObj hrow _ hK rfl
  case stop =>
    rintro D c pre X _ h _
    exact h.elim

theorem collect_any (N wd base : Nat) (v : Value) (w : World) (hN : N ≤ 4096) (hs : SetAt w base N v wd) (hT : Tab w) :
    Calls Tryd.prog 98 #[.func (.func 91) #[v] #[]] w (RetC w (num (bitsL N wd))) := by
  have HT := Lib.hid hT; clear hT
  have HS := Lib.hid hs; clear hs
  go_enter Tryd.func98, Tryd.ntmps98
  go_wp2_with fail
  refine ((callsIn_wide (n := 0)).1 (append_in 0 N wd base v _ hN HS.out HT.out)).mono ?_
  rintro e w1 ⟨A, c, rfl, hi, hb⟩
  have HI := Lib.hid hi; have HB := Lib.hid hb; clear hi hb
  go_wp2
  go_ret
  exact ⟨A, c, rfl, HI.out, HB.out⟩


theorem and_bit_ne (wd u : Nat) : (wd &&& 2 ^ u ≠ 0) ↔ wd.testBit u = true := by
  constructor
  · intro h
    cases ht : wd.testBit u with
    | true => rfl
    | false =>
      exfalso
      apply h
      apply Nat.eq_of_testBit_eq
      intro i
      rw [Nat.testBit_and, Nat.testBit_two_pow, Nat.zero_testBit]
      by_cases e : u = i
      · subst e; rw [ht]; rfl
      · simp [e]
  · intro h h0
    have : (wd &&& 2 ^ u).testBit u = true := by rw [Nat.testBit_and, h, Nat.testBit_two_pow]; simp
    rw [h0] at this
    simp at this
def RetQ (w : World) (v : Value) (e : Ending) (w' : World) : Prop := e = .returned v ∧ Quiet w w'
set_option maxHeartbeats 800000 in
theorem has_any (g n u wd m : Nat) (w : World) (hw : Word w g n wd) (hm : m = (n + 63) / 64) (hu : u < n) (hn : n ≤ 4096) (r : Bool) (hr : wd.testBit u = r) :
    Calls Tryd.prog 97 #[.slice (some ⟨g, 0, none⟩) m m, .int .i64 (u : Int)] w (RetQ w (.bool r)) := by
  obtain ⟨a, ha⟩ : ∃ a, u / 64 = a := ⟨_, rfl⟩
  obtain ⟨b, hb⟩ : ∃ b, u % 64 = b := ⟨_, rfl⟩
  have ham : a < m := by omega
  have hc := hw.cell (i := a) (by omega)
  have hf := hw.frozen a
  have q1 : (u : Int) / 64 = (a : Int) := by omega
  have q2 : (u : Int) % 64 = (b : Int) := by omega
  have hb64 : b < 64 := by omega
  have hp := pow_bd hb64
  have hwl := wdN_lt wd a
  have hbit : (wdN wd a).testBit b = r := by
    rw [wdN_bit, ← hr, show 64 * a + b = u from by omega]
    simp [hb64]
  have hu4 : (u : Int) < 4096 := by omega
  generalize wdN wd a = y at *
  have hx : (bits .and .u64 (y : Int) (IntKind.u64.wrap ((2 : Int) ^ b)) == 0) = !r := by
    rw [shl_lit b hb64, bits_and_u64_nat y (2 ^ b) (by omega) (by omega), ← hbit, Bool.eq_iff_iff, beq_iff_eq, Bool.not_eq_true']
    have := and_bit_ne y b
    constructor
    · intro h
      have h0 : y &&& 2 ^ b = 0 := by omega
      cases ht : y.testBit b with
      | false => rfl
      | true => exact absurd h0 (this.2 ht)
    · intro h
      rcases Nat.eq_zero_or_pos (y &&& 2 ^ b) with h0 | h0
      · omega
      · rw [this.1 (by omega)] at h; cases h
  have HX := Lib.hid hx; clear hx
  clear hw hp ha hb hm hr hbit
  go_enter Tryd.func97, Tryd.ntmps97
  go_wp2
  go_quiet (fail)
  go_wp2
  have hr : (bits .and .u64 (y : Int) (IntKind.u64.wrap ((2 : Int) ^ b)) != 0) = r := by
    unfold bne; rw [HX.out, Bool.not_not]
  rw [hr]
  go_ret
  exact ⟨rfl, Quiet.drew w nq⟩


structure Rch (n : Nat) (w0 : World) (bl b7 N : Nat) (lv fv : Value) (W : World) (ls : List Nat) (lw fw : Nat) : Prop where
  below : Below w0.heap.size w0 W
  lo : w0.heap.size ≤ bl ∧ w0.heap.size ≤ b7
  xl : W.heap[bl]? = some (.cells #[lv] 113 (0, 0))
  x7 : ∃ vo, W.heap[b7]? = some (.cells #[vo] 25 (0, 0)) ∧ OwnI W N vo (num ls)
  sl : SetAt W w0.heap.size n lv lw
  sf : SetAt W w0.heap.size n fv fw
  ne : lv.ownBlock ≠ fv.ownBlock
  nn : b7 < N ∧ w0.heap.size ≤ N ∧ N ≤ W.heap.size

section
variable {n : Nat} {w0 : World} {bl b7 N : Nat} {lv fv : Value} {W W' : World} {ls : List Nat} {lw fw : Nat}
theorem Rch.quiet (h : Rch n w0 bl b7 N lv fv W ls lw fw) (hq : Quiet W W') : Rch n w0 bl b7 N lv fv W' ls lw fw := by
  obtain ⟨vo, h7, ho⟩ := h.x7
  have e := hq.2.2.2
  have hb : Below w0.heap.size w0 W' := h.below.trans ⟨hq.1, hq.2.1, hq.2.2.1, by rw [e]; exact Nat.le_refl _, fun k _ => by rw [e]⟩
  exact ⟨hb, h.lo, by rw [e]; exact h.xl, ⟨vo, by rw [e]; exact h7, ho.keep fun b _ => by rw [e]⟩, h.sl.keep fun b _ _ => by rw [e], h.sf.keep fun b _ _ => by rw [e], h.ne, by rw [e]; exact h.nn⟩
theorem Rch.wrL (h : Rch n w0 bl b7 N lv fv W ls lw fw) {g m i x : Nat} {y : Value} (hg : lv = .slice (some ⟨g, 0, none⟩) m m) (hw : Wr W W' g i y) (hwd2 : Word W' g n x) (hx : x < 2 ^ n) : Rch n w0 bl b7 N lv fv W' ls x fw := by
  obtain ⟨vo, h7, ho⟩ := h.x7
  have hsl := h.sl
  subst hg
  obtain ⟨em, hb', hwd⟩ := hsl.open_
  have kp : ∀ {b : Nat} {cs' : Array Value} {t : TypeId}, W.heap[b]? = some (.cells cs' t (0, 0)) → t ≠ 124 → W'.heap[b]? = W.heap[b]? := fun hb ht => hw.block (blk_ne hb hwd.blk ht)
  refine ⟨hw.below h.below hb', h.lo, (kp h.xl (by decide)).trans h.xl, ⟨vo, (kp h7 (by decide)).trans h7, ho.keep fun b e => ?_⟩, ⟨⟨g, by rw [em], hb', hwd2⟩, hx⟩, h.sf.keep fun b e _ => hw.block fun e' => ?_, h.ne, by rw [hw.size]; exact h.nn⟩
  · obtain ⟨cs, hc⟩ := ho.typed e
    exact kp hc (by decide)
  · subst e'
    exact h.ne (by rw [e]; rfl)
theorem Rch.wrF (h : Rch n w0 bl b7 N lv fv W ls lw fw) {g m i x : Nat} {y : Value} (hg : fv = .slice (some ⟨g, 0, none⟩) m m) (hw : Wr W W' g i y) (hwd2 : Word W' g n x) (hx : x < 2 ^ n) : Rch n w0 bl b7 N lv fv W' ls lw x := by
  obtain ⟨vo, h7, ho⟩ := h.x7
  have hsf := h.sf
  subst hg
  obtain ⟨em, hb', hwd⟩ := hsf.open_
  have kp : ∀ {b : Nat} {cs' : Array Value} {t : TypeId}, W.heap[b]? = some (.cells cs' t (0, 0)) → t ≠ 124 → W'.heap[b]? = W.heap[b]? := fun hb ht => hw.block (blk_ne hb hwd.blk ht)
  refine ⟨hw.below h.below hb', h.lo, (kp h.xl (by decide)).trans h.xl, ⟨vo, (kp h7 (by decide)).trans h7, ho.keep fun b e => ?_⟩, h.sl.keep fun b e _ => hw.block fun e' => ?_, ⟨⟨g, by rw [em], hb', hwd2⟩, hx⟩, h.ne, by rw [hw.size]; exact h.nn⟩
  · obtain ⟨cs, hc⟩ := ho.typed e
    exact kp hc (by decide)
  · subst e'
    exact h.ne (by rw [e]; rfl)
theorem Rch.append (h : Rch n w0 bl b7 N lv fv W ls lw fw) {vo v' : Value} {w1 : World} {tmp : Obj} {us : List Value} {x : Nat}
    (h7 : W.heap[b7]? = some (.cells #[vo] 25 (0, 0))) (hg : (W.alloc tmp).grownBy w1 vo.ownBlock) (hown : Own1 w1 N 3 v' us) (hus : us = ints (num ls) ++ [.int .i64 (x : Int)]) :
    Rch n w0 bl b7 N lv fv (w1.setCell ⟨b7, 0, none⟩ v') (ls ++ [x]) lw fw ∧ w1.cell? ⟨b7, 0, none⟩ = some vo ∧ w1.frozen? ⟨b7, 0, none⟩ = false := by
  subst hus
  obtain ⟨vo', h7', ho⟩ := h.x7
  have e5 := h7'.symm.trans h7
  injection e5 with e5
  injection e5 with e5
  have e5' : vo' = vo := by simpa using e5
  subst e5'
  have nrow : ∀ {b : Nat} {cs' : Array Value} {t : TypeId}, W.heap[b]? = some (.cells cs' t (0, 0)) → t ≠ 3 → vo'.ownBlock ≠ some b := by
    intro b cs' t hb ht e
    obtain ⟨cs, hc⟩ := ho.typed e
    exact blk_ne hb hc ht rfl
  have k1 : ∀ {b : Nat} {cs' : Array Value} {t : TypeId}, W.heap[b]? = some (.cells cs' t (0, 0)) → t ≠ 3 → w1.heap[b]? = W.heap[b]? := by
    intro b cs' t hb ht
    rw [hg.block b (Nat.lt_of_lt_of_le (blk_lt hb) (by simp)) (fun e => nrow hb ht e.symm)]
    exact Below.heap_alloc W tmp b (blk_lt hb)
  have kp : ∀ {b : Nat} {cs' : Array Value} {t : TypeId}, W.heap[b]? = some (.cells cs' t (0, 0)) → t ≠ 3 → t ≠ 25 → (w1.setCell ⟨b7, 0, none⟩ v').heap[b]? = W.heap[b]? := fun hb ht ht' => by rw [blk_other (blk_ne hb h7' ht')]; exact k1 hb ht
  have h71 := (k1 h7' (by decide)).trans h7'
  have hbl : Below w0.heap.size W (w1.setCell ⟨b7, 0, none⟩ v') :=
    (((Below.refl _ W).alloc h.below.size tmp).grown hg (by simp; have := h.below.size; omega) fun j e => Nat.le_trans h.nn.2.1 (ho.lt e).1).setCell (p := ⟨b7, 0, none⟩) h.lo.2 _
  refine ⟨⟨h.below.trans hbl, h.lo, (kp h.xl (by decide) (by decide)).trans h.xl, ⟨v', by have := blk_set h71 0 v'; simpa using this, ?_⟩, h.sl.keep' fun b x e hw => kp hw.blk (by decide) (by decide), h.sf.keep' fun b x e hw => kp hw.blk (by decide) (by decide), h.ne, h.nn.1, h.nn.2.1, Nat.le_trans h.nn.2.2 hbl.size⟩, ?_, blk_frozen h71 0⟩
  · rw [num_app]
    show Own1 _ _ _ _ (ints (num ls ++ num [x]))
    rw [ints_app]
    exact hown.keep fun b e => blk_other fun e' => by
      subst e'
      obtain ⟨cs, hc⟩ := hown.typed e
      exact blk_ne h71 hc (by decide) rfl
  · have := blk_cell h71 0
    simpa using this
end

def Lst (n lw : Nat) (ls : List Nat) : Prop := ls.Nodup ∧ (∀ u ∈ ls, u < n) ∧ ∀ i, i < n → lw.testBit i = decide (i ∈ ls)
theorem Lst.len {n lw : Nat} {ls : List Nat} (h : Lst n lw ls) : ls.length ≤ n := nodup_len h.1 h.2.1
def RetV (n : Nat) (w0 : World) (bl b7 N : Nat) (lv fv : Value) (ls : List Nat) (fw : Nat) (e : Ending) (w' : World) : Prop :=
  (∃ v, e = .returned v) ∧ ∃ lw, Rch n w0 bl b7 N lv fv w' ls lw fw ∧ Lst n lw ls

set_option maxHeartbeats 1600000 in
theorem visit_any (n : Nat) (w0 : World) (bl b7 N : Nat) (lv fv : Value) (W : World) (ls : List Nat) (lw fw u : Nat) (hn : n ≤ 4096) (h : Rch n w0 bl b7 N lv fv W ls lw fw) (hl : Lst n lw ls) (hu : u < n) :
    Calls Tryd.prog 96 #[.int .i64 (u : Int), .pointer (some ⟨bl, 0, none⟩), .pointer (some ⟨b7, 0, none⟩)] W (RetV n w0 bl b7 N lv fv (insL ls u) fw) := by
  obtain ⟨g, eg, _, hwd⟩ := h.sl.ex
  obtain ⟨m, hm⟩ : ∃ m, m = (n + 63) / 64 := ⟨_, rfl⟩
  rw [← hm] at eg
  subst eg
  have HM := Lib.hid hm
  have HLT : Hid (lw < 2 ^ n) := Lib.hid h.sl.lt
  have hcl := blk_cell h.xl 0
  simp only [List.getElem?_toArray, List.getElem?_cons_zero] at hcl
  have H := Lib.hid h
  have HL := Lib.hid hl
  have HW := Lib.hid hwd
  clear h hl hwd hm
  by_cases hin : u ∈ ls
  · have HI : Hid (insL ls u = ls) := Lib.hid (insL_in hin)
    have HB : Hid (lw.testBit u = true) := Lib.hid (by rw [HL.out.2.2 u hu]; simp [hin])
    clear hin
    rw [HI.out]
    go_enter Tryd.func96, Tryd.ntmps96
    go_wp2_with fail
    refine (has_any g n u lw m _ HW.out HM.out hu hn true HB.out).mono ?_
    rintro e W1 ⟨rfl, hq⟩
    have HQ := Lib.hid hq; clear hq
    go_wp2_with fail
    go_end0
    exact ⟨⟨_, rfl⟩, lw, H.out.quiet HQ.out, HL.out⟩
  · have HI : Hid (insL ls u = ls ++ [u]) := Lib.hid (insL_out hin)
    have HB : Hid (lw.testBit u = false) := Lib.hid (by rw [HL.out.2.2 u hu]; simp [hin])
    have HIN := Lib.hid hin
    clear hin
    rw [HI.out]
    go_enter Tryd.func96, Tryd.ntmps96
    go_wp2_with fail
    refine (has_any g n u lw m _ HW.out HM.out hu hn false HB.out).mono ?_
    rintro e W1 ⟨rfl, hq⟩
    have H1 := Lib.hid (H.out.quiet hq)
    have HW1 := Lib.hid (Word.keep HW.out (by rw [hq.2.2.2]))
    have hcl1 := blk_cell H1.out.xl 0
    simp only [List.getElem?_toArray, List.getElem?_cons_zero] at hcl1
    clear hq
    go_wp2_with fail
    refine (add_any g n u lw m _ HW1.out HM.out hu hn).mono ?_
    rintro e W2 ⟨⟨v2, rfl⟩, hw2, i2, x2, hwr⟩
    have H2 := Lib.hid (H1.out.wrL rfl hwr hw2 (or_lt HLT.out hu))
    clear hwr hw2
    obtain ⟨vo, h7, ho⟩ := H2.out.x7
    have c7 := blk_cell h7 0
    have f7 := blk_frozen h7 0
    simp only [List.getElem?_toArray, List.getElem?_cons_zero] at c7
    have H7 := Lib.hid h7
    have HO := Lib.hid ho
    have hll : (ints (num ls)).length ≤ 4096 := by rw [ints_len, num_len]; exact Nat.le_trans HL.out.len hn
    have hN := H2.out.nn.2.2
    clear h7 ho
    go_wp2_with (at_builtin; refine wpList_appg rfl _ _ 25 3 (.int .i64 0) 8 Tryd.underlying25 info_int rfl (by decide) rfl N vo (ints (num ls)) rfl (HO.out.below ((Below.refl _ _).alloc (Nat.le_refl _) _)) (some ⟨W2.heap.size, 0, none⟩) 1 1 [.int .i64 (u : Int)] rfl rfl (Sl.one rfl) (by simp [Value.oneCell']) (by simp; omega) (by simp; omega) ?_; intro l A9 c9 w9 el ho9 hg9 _ _; obtain ⟨hap, hc9, hf9⟩ := H2.out.append H7.out hg9 ho9 el; have HAP := Lib.hid hap; clear hap ho9 hg9 el)
    go_end0
    refine ⟨⟨_, rfl⟩, _, HAP.out, ?_, ?_, fun i hi => ?_⟩
    · have := insL_nodup (u := u) HL.out.1
      rwa [HI.out] at this
    · intro v hv
      rcases List.mem_append.1 hv with hv | hv
      · exact HL.out.2.1 v hv
      · simp at hv; subst hv; exact hu
    · rw [or_bit, HL.out.2.2 i hi, Bool.eq_iff_iff]
      simp



set_option maxHeartbeats 800000 in
theorem newSet_at (n : Nat) (w : World) (hn : n ≤ 4096) :
    Calls Tryd.prog 89 #[.int .i64 (n : Int)] w fun e w' => ∃ v, e = .returned v ∧ SetAt w' w.heap.size n v 0 ∧ Below w.heap.size w w' ∧ v.ownBlock = some w.heap.size ∧ w.heap.size < w'.heap.size := by
  obtain ⟨m, hm⟩ : ∃ m, (n + 63) / 64 = m := ⟨_, rfl⟩
  have hn' : (n : Int) ≤ 4096 := by omega
  have hq : ((n : Int) + 64 - 1) / 64 = (m : Int) := by omega
  have hmm : m ≤ 1000000 := by omega
  have hmk := fun (W : World) (x y : Int) (hx : x = (m : Int)) (hy : y = (m : Int)) => run_mk W 113 124 _ 8 Tryd.underlying113 info_u64 rfl (by decide) m hmm x y hx hy
  have hmk1 := fun (W : World) => hmk W _ _ rfl rfl
  have HM := Lib.hid hm
  clear hmk hm
  go_enter Tryd.func89, Tryd.ntmps89
  go_wp2
  go_ret
  refine ⟨_, rfl, ⟨⟨w.heap.size, by rw [HM.out]; rfl, Nat.le_refl _, ⟨?_⟩⟩, Nat.pow_pos (by decide)⟩, (Below.refl _ _).alloc (Nat.le_refl _) _, rfl, by simp⟩
  rw [wordsS_zero, HM.out, List.toArray_replicate]
  exact heap_alloc_new w _

def RetP (w : World) (n : Nat) (P : Nat → Prop) (e : Ending) (w' : World) : Prop :=
  ∃ (p : Nat → Bool) (A : Option Addr) (c : Nat), (∀ u, u < n → (p u = true ↔ P u)) ∧ e = .returned (.slice A (num ((List.range n).filter p)).length c) ∧ OwnI w' w.heap.size (.slice A (num ((List.range n).filter p)).length c) (num ((List.range n).filter p)) ∧ Below w.heap.size w w'

theorem Rch.start (n : Nat) (w w1 w2 : World) (lv fv : Value) (h1 : SetAt w1 w.heap.size n lv 0) (b1 : Below w.heap.size w w1) (o1 : lv.ownBlock = some w.heap.size) (l1 : w.heap.size < w1.heap.size)
    (h2 : SetAt w2 w1.heap.size n fv 0) (b2 : Below w1.heap.size w1 w2) (o2 : fv.ownBlock = some w1.heap.size) :
    Rch n w w2.heap.size (w2.heap.size + 1) (w2.heap.size + 1 + 1) lv fv ((w2.alloc (.cells #[lv] 113)).alloc (.cells #[.slice none 0 0] 25)) [] 0 0 := by
  have z2 := b2.size
  have c1 : Below w2.heap.size w2 (w2.alloc (.cells #[lv] 113)) := (Below.refl _ _).alloc (Nat.le_refl _) _
  have c2 : Below (w2.alloc (.cells #[lv] 113)).heap.size (w2.alloc (.cells #[lv] 113)) ((w2.alloc (.cells #[lv] 113)).alloc (.cells #[.slice none 0 0] 25)) := (Below.refl _ _).alloc (Nat.le_refl _) _
  have c3 := blw c1 c2
  have e1 := heap_alloc_new w2 (.cells #[lv] 113)
  have e2 := heap_alloc_new (w2.alloc (.cells #[lv] 113)) (.cells #[.slice none 0 0] 25)
  rw [World.size_alloc] at e2
  refine ⟨blw (blw b1 b2) c3, ⟨by omega, by omega⟩, (c2.block _ (by simp)).trans e1, ⟨.slice none 0 0, e2, Own1.nil _ _ _⟩, (h1.below b2).below c3, ?_, by rw [o1, o2]; intro e; injection e with e; omega, ⟨by omega, by omega, by simp⟩⟩
  obtain ⟨⟨g, e, hg, hw⟩, hl⟩ := h2.below c3
  exact ⟨⟨g, e, by omega, hw⟩, hl⟩

set_option maxRecDepth 100000 in
set_option maxHeartbeats 4000000 in
theorem reached_any (es : List (List Int)) (l : List Int) (n nl : Nat) (hen : es.length = n) (hel : l.length = nl) (w : World) (A Al : Option Addr) (c cl : Nat) (hn : n ≤ 4096) (hlb : ∀ x ∈ es, x.length ≤ 1000000) (hE : Valid es) (h1 : IRows w A c es) (h2 : Ints w Al cl l) (hT : Tab w) :
    Calls Tryd.prog 86 #[.slice A n c, .slice Al nl cl] w (RetP w n (FarP es l)) := by
  subst hen hel
  have hlm : l.length ≤ 9223372036854775807 := Nat.le_trans h2.len (by have := Sl.top h2; simpa [maxLen] using this)
  have H1 := Lib.hid h1
  have H2 := Lib.hid h2
  have HT := Lib.hid hT
  have HE := Lib.hid hE
  have HLB := Lib.hid hlb
  clear h1 h2 hT hE hlb
  go_enter Tryd.func86, Tryd.ntmps86
  go_wp2_with fail
  refine (newSet_at es.length _ hn).mono ?_
  rintro e w1 ⟨lv, rfl, hs1, hb1, ho1, hl1⟩
  obtain ⟨kl, hkl⟩ : ∃ k, k = (es.length + 63) / 64 := ⟨_, rfl⟩
  have HKL := Lib.hid hkl
  obtain ⟨gl, rfl⟩ : ∃ g, lv = .slice (some ⟨g, 0, none⟩) kl kl := by
    obtain ⟨⟨g, e, _⟩, _⟩ := hs1
    exact ⟨g, by rw [e, hkl]⟩
  clear hkl
  have HS1 := Lib.hid hs1; have HB1 := Lib.hid hb1; have HO1 := Lib.hid ho1; have HL1 := Lib.hid hl1
  clear hs1 hb1 ho1 hl1
  go_wp2_with fail
  refine (newSet_at es.length _ hn).mono ?_
  rintro e w2 ⟨fv, rfl, hs2, hb2, ho2, hl2⟩
  obtain ⟨gf, rfl⟩ : ∃ g, fv = .slice (some ⟨g, 0, none⟩) kl kl := by
    obtain ⟨⟨g, e, _⟩, _⟩ := hs2
    exact ⟨g, by rw [e, HKL.out]⟩
  have HR := Lib.hid (Rch.start es.length w w1 w2 _ _ HS1.out HB1.out HO1.out HL1.out hs2 hb2 ho2)
  clear hs2 hb2 ho2 hl2 HS1 HB1 HO1 HL1
  go_wp2_with fail
  generalize (w2.alloc (.cells #[.slice (some ⟨gl, 0, none⟩) kl kl] 113)).alloc (.cells #[.slice none 0 0] 25) = W0 at HR ⊢
  generalize w2.heap.size + 1 + 1 = N at HR
  generalize w2.heap.size + 1 = b7 at HR ⊢
  generalize w2.heap.size = bl at HR ⊢
  go_loopw [23] (fun i wr => ∃ (k : Nat) (ls : List Nat) (lw : Nat), k ≤ l.length ∧ i = .int .i64 k ∧ Hid (Rch es.length w bl b7 N (.slice (some ⟨gl, 0, none⟩) kl kl) (.slice (some ⟨gf, 0, none⟩) kl kl) wr ls lw 0) ∧ Hid (Lst es.length lw ls) ∧ Hid (Strt es l ls k)) (fun i _ => l.length - (intOf i).toNat)
  case atStart => exact ⟨0, [], 0, Nat.zero_le _, rfl, HR, Lib.hid ⟨List.nodup_nil, by simp, by simp⟩, Lib.hid (Strt.zero es l)⟩
  case round =>
    clear HR
    obtain ⟨k, ls, lw, hk, rfl, HR, HL, HS⟩ := hrel
    by_cases hkl : k < l.length
    · obtain ⟨b, off, x, rfl, hx, hcx0⟩ := H2.out.at_ hkl
      have hcx := (HR.out.below.cell (p := ⟨b, off + k, none⟩) (World.block_lt_of_cell? w _ hcx0)).trans hcx0
      have HX := Lib.hid hx
      clear hx hcx0
      by_cases hv : 0 ≤ x ∧ x < (es.length : Int)
      · obtain ⟨u, rfl⟩ : ∃ u : Nat, x = (u : Int) := ⟨x.toNat, by omega⟩
        have hul : u < es.length := by omega
        clear hv
        go_wp2_with fail
        refine (visit_any es.length w bl b7 N _ _ _ ls lw 0 u hn HR.out HL.out hul).mono ?_
        rintro e w3 ⟨⟨v3, rfl⟩, lw3, hr3, hl3⟩
        have HR3 := Lib.hid hr3; have HL3 := Lib.hid hl3; clear hr3 hl3
        go_wp2_with fail
        go_roundw
        case rel => exact ⟨k + 1, insL ls u, lw3, by omega, by go_num, HR3, HL3, Lib.hid (HS.out.in_ HX.out hul)⟩
        case measure => simp [intOf]; omega
      · have HV := Lib.hid hv
        by_cases h0 : x < 0
        · clear hv
          go_wp2_with fail
          go_roundw
          case rel => exact ⟨k + 1, ls, lw, by omega, by go_num, HR, HL, Lib.hid (HS.out.out HX.out HV.out)⟩
          case measure => simp [intOf]; omega
        · have h1 : (es.length : Int) ≤ x := by omega
          have h0' : 0 ≤ x := by omega
          have hd : decide (x < (es.length : Int)) = false := decide_eq_false (by omega)
          clear hv h0
          go_wp2_with fail
          go_roundw
          case rel => exact ⟨k + 1, ls, lw, by omega, by go_num, HR, HL, Lib.hid (HS.out.out HX.out HV.out)⟩
          case measure => simp [intOf]; omega
    · obtain rfl : k = l.length := by omega
      have HSR := Lib.hid HS.out.end_
      clear HS hkl hk
      go_wp2_with fail
      go_loopw [11] (fun i wr => ∃ (i0 : Nat) (ls : List Nat) (lw fw : Nat), i0 ≤ ls.length ∧ i = .int .i64 i0 ∧ Hid (Rch es.length w bl b7 N (.slice (some ⟨gl, 0, none⟩) kl kl) (.slice (some ⟨gf, 0, none⟩) kl kl) wr ls lw fw) ∧ Hid (Lst es.length lw ls) ∧ Hid (Srch es l ls i0 0 fun u => fw.testBit u)) (fun i _ => es.length - (intOf i).toNat)
      case atStart => exact ⟨0, ls, lw, 0, Nat.zero_le _, rfl, HR, HL, Lib.hid (by have := HSR.out; simpa using this)⟩
      case round =>
        clear HR HL HSR
        obtain ⟨i0, ls, lw, fw, hi0, rfl, HR, HL, HS⟩ := hrel
        have hlen := HL.out.len
        obtain ⟨vo, h7, ho⟩ := HR.out.x7
        obtain ⟨Ao, co, rfl, hio⟩ := OwnI.ints ho
        have c7 := blk_cell h7 0
        simp only [List.getElem?_toArray, List.getElem?_cons_zero, num_len] at c7
        have HIO := Lib.hid hio
        clear h7 ho hio
        by_cases hil : i0 < ls.length
        · obtain ⟨b, off, y, rfl, hy, hcy⟩ := HIO.out.at_ (k := i0) (by rw [num_len]; exact hil)
          obtain ⟨x, hx⟩ : ∃ x, ls[i0]? = some x := ⟨_, List.getElem?_eq_getElem hil⟩
          rw [num_get, hx] at hy
          injection hy with hy
          subst hy
          have hxl : x < es.length := HL.out.2.1 x (List.mem_of_getElem? hx)
          obtain ⟨b2, off2, A2, c2, rfl, hcr0, hir⟩ := H1.out.cells x _ (row_get hxl)
          have hcr := (HR.out.below.cell (p := ⟨b2, off2 + x, none⟩) (World.block_lt_of_cell? w _ hcr0)).trans hcr0
          have hrl := HLB.out _ (row_mem hxl)
          have HX := Lib.hid hx
          have HIR := Lib.hid hir
          clear hx hcr0 hir
          go_wp2_with fail
          go_loopw [53] (fun i wr => ∃ (j : Nat) (ls : List Nat) (lw fw : Nat), j ≤ (row es x).length ∧ i = .int .i64 j ∧ Hid (ls[i0]? = some x) ∧ Hid (Rch es.length w bl b7 N (.slice (some ⟨gl, 0, none⟩) kl kl) (.slice (some ⟨gf, 0, none⟩) kl kl) wr ls lw fw) ∧ Hid (Lst es.length lw ls) ∧ Hid (Srch es l ls i0 j fun u => fw.testBit u)) (fun i _ => (row es x).length - (intOf i).toNat)
          case atStart => exact ⟨0, ls, lw, fw, Nat.zero_le _, rfl, HX, HR, HL, HS⟩
          case round =>
            clear HR HL HS HX c7 hcy hcr HIO
            obtain ⟨j, ls, lw, fw, hj, rfl, HX, HR, HL, HS⟩ := hrel
            by_cases hjl : j < (row es x).length
            · obtain ⟨b3, off3, y, rfl, hy, hcy0⟩ := HIR.out.at_ hjl
              have hcy := (HR.out.below.cell (p := ⟨b3, off3 + j, none⟩) (World.block_lt_of_cell? w _ hcy0)).trans hcy0
              obtain ⟨u, rfl, hul, _⟩ := HE.out.at_ (List.mem_of_getElem? hy)
              have HY := Lib.hid hy
              have hwd := HR.out.sf.open_.2.2
              have HW := Lib.hid hwd
              have HLT : Hid (fw < 2 ^ es.length) := Lib.hid HR.out.sf.lt
              clear hy hcy0 hwd
              go_wp2_with fail
              refine (add_any gf es.length u fw kl _ HW.out HKL.out hul hn).mono ?_
              rintro e w4 ⟨⟨v4, rfl⟩, hw4, i4, x4, hwr⟩
              have HR4 := Lib.hid (HR.out.wrF rfl hwr hw4 (or_lt HLT.out hul))
              clear hwr hw4
              go_wp2_with fail
              refine (visit_any es.length w bl b7 N _ _ _ ls lw _ u hn HR4.out HL.out hul).mono ?_
              rintro e w5 ⟨⟨v5, rfl⟩, lw5, hr5, hl5⟩
              have HR5 := Lib.hid hr5; have HL5 := Lib.hid hl5; clear hr5 hl5
              go_wp2_with fail
              go_roundw
              case rel => exact ⟨j + 1, insL ls u, lw5, fw ||| 2 ^ u, by omega, by go_num, Lib.hid (insL_get HX.out), HR5, HL5, Lib.hid (HS.out.step HE.out HX.out HY.out fun v _ => or_bit fw u v)⟩
              case measure => simp [intOf]; omega
            · obtain rfl : j = (row es x).length := by omega
              have hil2 : i0 < ls.length := (List.getElem?_eq_some_iff.1 HX.out).1
              have hlen2 := HL.out.len
              go_wp2_with fail
              go_roundw
              case rel => exact ⟨i0 + 1, ls, lw, fw, by omega, by go_num, HR, HL, Lib.hid (HS.out.next HX.out)⟩
              case measure => simp [intOf]; omega
        · obtain rfl : i0 = ls.length := by omega
          go_wp2_with fail
          refine (collect_any es.length fw _ _ _ hn HR.out.sf (HT.out.below HR.out.below HT.out.lt)).mono ?_
          rintro e w6 ⟨A6, c6, rfl, hi6, hb6⟩
          have HI6 := Lib.hid hi6; have HB6 := Lib.hid hb6; clear hi6 hb6
          go_wp2
          go_ret
          exact ⟨fun u => fw.testBit u, A6, c6, fun u hu => HS.out.done HE.out hu, rfl, HI6.out.rebase HR.out.below.size, blw HR.out.below HB6.out⟩


/-- Below: what waits for any of these, over whatever others -/
theorem below_any (w : World) (E : List (List Int)) (p : Value) (h : Gr w E p) (hn : E.length ≤ 4096) (l : List Int) (nl : Nat) (hel : l.length = nl) (Al : Option Addr) (cl : Nat) (h2 : Ints w Al cl l) (hT : Tab w) :
    Calls Tryd.prog 73 #[p, .slice Al nl cl] w (RetP w E.length (FarP (rev E) l)) := by
  obtain ⟨g, A1, c1, A2, c2, A3, c3, rfl, hg, h1, h3, h4⟩ := h.ex
  have q0 := blk_cell hg 0
  have q1 := blk_cell hg 1
  have q2 := blk_cell hg 2
  simp only [List.getElem?_toArray, List.getElem?_cons_zero, List.getElem?_cons_succ] at q0 q1 q2
  have hlb := rev_rows_len hn
  have C := Lib.hid (fun W (hW : Below w.heap.size w W) => reached_any (rev E) l E.length nl (rev_len E) hel W A2 Al c2 cl hn hlb (valid_rev E) (h3.below hW) (h2.below hW) (hT.below hW hT.lt))
  clear h hg h1 h3 h4 h2 hT hlb
  go_enter Tryd.func73, Tryd.ntmps73
  go_wp2_with fail
  refine (C.out _ (Below.refl _ _)).mono ?_
  rintro e w1 ⟨q, A, c, hq, rfl, ho, hb⟩
  go_wp2
  go_ret
  exact ⟨q, A, c, hq, rfl, ho, hb⟩

end Go.Proofs.YtgejonmjmieglaaDoor.Dag

