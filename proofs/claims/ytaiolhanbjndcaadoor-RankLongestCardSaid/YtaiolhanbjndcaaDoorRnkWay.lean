/- Layer 7: the program's Path. -/
import Derived.Test.YtaiolhanbjndcaaDoorMLen
import Derived.Test.YtaiolhanbjndcaaDoorMBst
import Derived.Test.YtaiolhanbjndcaaDoorMTel
import Derived.Test.YtaiolhanbjndcaaDoorMSri
import Derived.RangeFuncBox
import Derived.Shelf.Slices.In.SortNone
namespace Go.Proofs.YtaiolhanbjndcaaDoor
open Go.RowKit Go.Shelf
open Dag (Ints Own1 OwnI Sl num num_len num_get Gr newE order behL order_ord wide_call wide_call_in info_int)
set_option linter.unusedVariables false
set_option maxRecDepth 100000
attribute [local go_sem] Oper.semAt_some
theorem vals_any (A : Option Addr) (n c : Nat) (w : World) : Calls Tryd.prog 27 #[.slice A n c] w fun e w' => e = .returned (.func (.func 43) #[] #[.pointer (some ⟨w.heap.size, 0, none⟩)]) ∧ w' = w.alloc (.cells #[.slice A n c] 27) := by
  go_enter Tryd.func27, Tryd.ntmps27
  go_wp2
  go_ret
  exact ⟨rfl, rfl⟩
theorem nat_snoc {xs : List Int} {k : Nat} {x : Int} (h : xs[k]? = some x) : xs.take (k + 1) = xs.take k ++ [x] := by rw [List.take_add_one, h, Option.toList_some]
set_option maxHeartbeats 1600000 in
theorem val1_seqK (m : Nat) (xs : List Int) (n : Nat) (hn : xs.length = n) (hb : n ≤ 1000) (B : Nat) (A : Option Addr) (c : Nat) :
    SeqK (α := Int) Tryd.prog m 43 #[.pointer (some ⟨B, 0, none⟩)] (fun s => s = xs) (fun pre x args W => (∃ post, xs = pre ++ x :: post) ∧ args = #[.int .i64 x])
      (fun W => W.cell? ⟨B, 0, none⟩ = some (.slice A n c) ∧ Ints W A c xs) := by
  intro l J Jx W hK hY h0
  obtain ⟨cB, hI⟩ := hK _ _ h0
  have HK := Lib.hid hK; have HY := Lib.hid hY; have H0 := Lib.hid h0; have HN := Lib.hid hn
  clear hK hY h0 hn
  have hbi : (n : Int) ≤ 1000 := by omega
  refine callsIn_of_wp Tryd.func43 rfl trivial ?_ rfl
  simp only [Tryd.ntmps43, List.size_toArray, List.length_cons, List.length_nil, Nat.reduceAdd, Nat.reduceSub, Array.replicate_succ, Array.replicate_zero, List.push_toArray, List.append_toArray, List.nil_append, List.cons_append]
  gi_wp2
  clear cB hI
  gi_loopw [7] (fun i wr => ∃ k : Nat, k ≤ n ∧ i = .int .i64 k ∧ Hid (J (xs.take k) wr)) (fun i _ => n - (intOf i).toNat)
  case atStart => exact ⟨0, Nat.zero_le _, rfl, Lib.hid (by rw [List.take_zero]; exact H0.out)⟩
  case round =>
    obtain ⟨k, hk, rfl, HJ⟩ := hrel
    obtain ⟨cB, hI⟩ := HK.out _ _ HJ.out
    by_cases hlt : k < n
    · obtain ⟨x, hx⟩ : ∃ x, xs[k]? = some x := ⟨_, List.getElem?_eq_getElem (by rw [HN.out]; exact hlt)⟩
      have HTK := Lib.hid (nat_snoc hx)
      have hsp : xs = xs.take k ++ x :: xs.drop (k + 1) := by
        have h1 := List.take_append_drop k xs
        rw [List.drop_eq_getElem_cons (List.getElem?_eq_some_iff.1 hx).1, (List.getElem?_eq_some_iff.1 hx).2] at h1
        exact h1.symm
      obtain ⟨b, off, eA, cx⟩ := hI.cells k (.int .i64 x) (by unfold Dag.ints; rw [List.getElem?_map, hx]; rfl)
      subst eA
      have hyl := HY.out (xs.take k) x #[.int .i64 x] wr HJ.out ⟨⟨_, hsp⟩, rfl⟩
      have hlb := World.block_lt_of_cell? wr _ cx
      clear hsp hI hx
      obtain ⟨fn, tmps, assign, body, hy, hR⟩ := hyl
      gi_wp2
      refine ⟨(fun h => by cases h), hR.mono ?_⟩
      rintro e W3 (⟨rfl, hJ3⟩ | ⟨rfl, hJx3⟩)
      · have HJ3 := Lib.hid hJ3
        clear hJ3 hR hy
        gi_wp2
        go_roundw
        case rel => exact ⟨k + 1, by omega, by go_num, Lib.hid (by rw [HTK.out]; exact HJ3.out)⟩
        case measure => simp [intOf]; omega
      · have HJ3 := Lib.hid hJx3
        clear hJx3 hR hy
        gi_wp2
        refine bodyPost_ret (results_none rfl _ _ _) rfl ?_
        exact ⟨⟨_, rfl⟩, Or.inr ⟨_, HJ3.out⟩⟩
    · obtain rfl : k = n := by omega
      gi_wp2
      go_end0
      exact ⟨⟨_, rfl⟩, Or.inl ⟨_, rfl, by have := HJ.out; rwa [List.take_of_length_le (by rw [HN.out]; exact Nat.le_refl _)] at this⟩⟩
/-- what a row of one's own says -/
def RetOwnV (w : World) (xs : List Int) (e : Ending) (w' : World) : Prop := ∃ v, e = .returned v ∧ OwnI w' w.heap.size v xs ∧ Below w.heap.size w w'
set_option maxHeartbeats 2000000 in
theorem appi_in (m : Nat) (xs : List Int) (n : Nat) (hn : xs.length = n) (hb : n ≤ 1000) (Bs : Nat) (A : Option Addr) (c : Nat) (w : World) (hc : w.cell? ⟨Bs, 0, none⟩ = some (.slice A n c)) (hI : Ints w A c xs) :
    CallsIn Fence.wide m Tryd.prog 55 #[.slice none 0 0, .func (.func 43) #[] #[.pointer (some ⟨Bs, 0, none⟩)]] w (RetOwnV w xs) := by
  obtain ⟨i0, hi0, hz0, hz1, hz2⟩ := info_parts info_int
  have HC := Lib.hid hc; have HI := Lib.hid hI; have HN := Lib.hid hn
  clear hc hI hn
  refine callsIn_of_wp_marks Tryd.func55 rfl trivial ?_ rfl
  simp only [Tryd.ntmps55, List.size_toArray, List.length_cons, List.length_nil, Nat.reduceAdd, Nat.reduceSub, Array.replicate_succ, Array.replicate_zero, List.push_toArray, List.append_toArray, List.nil_append, List.cons_append]
  gi_wp2_with fail
  have bO := Boxed.new w 27 (.slice none 0 0)
  have hB0 : Below w.heap.size w (w.alloc (.cells #[.slice none 0 0] 27)) := (Below.refl _ w).alloc (Nat.le_refl _) _
  refine range_seqK (α := Int) (gf := 43) (lb := #[.pointer (some ⟨Bs, 0, none⟩)]) rfl (fun args w => by simp [go_sem]) (fun pre x args X h => by obtain ⟨_, rfl⟩ := h; rfl)
    (val1_seqK (m - 1) xs n HN.out hb Bs A c) (fun pre x args X Y _ h => h)
    (fun pre W => (∃ vo, Boxed W w.heap.size 27 vo ∧ W.ownsRow w.heap.size 3 1 vo (Dag.ints pre).length (Dag.ints pre) ∧ True) ∧ Below w.heap.size w W) (fun _ _ _ => False)
    (OwnFrom.and (Own.from (holdsRow_own w.heap.size w.heap.size 27 3 1 (fun pre => (Dag.ints pre).length) (fun pre => Dag.ints pre) (fun _ _ => True)) _) (ownFrom_below (Nat.le_refl _) (by simp)))
    (fun _ _ _ _ _ hs _ _ => hs) ?kk ⟨⟨_, bO, World.ownsRow_nil _ _ _ _, trivial⟩, hB0⟩
    (fun args => { tmps := #[.slice none 0 0, .func (.func 43) #[] #[.pointer (some ⟨Bs, 0, none⟩)], .pointer (some ⟨w.heap.size, 0, none⟩), undef, .slice none 0 0, args[0]?.getD undef, .func (.func 43) #[] #[.pointer (some ⟨Bs, 0, none⟩)], args[0]?.getD undef, undef, undef, undef, undef, undef], defers := [] }) ?assign ?body ?done ?stop
  case kk =>
    rintro pre X ⟨_, hB⟩
    exact ⟨(hB.cell (p := ⟨Bs, 0, none⟩) (World.block_lt_of_cell? w _ HC.out)).trans HC.out, HI.out.below hB⟩
  case assign =>
    rintro l pre x args X K ⟨_, rfl⟩ hK
    gi_wp2
    exact hK
  case body =>
    rintro l pre x args X ⟨⟨vo, hv, hrow, _⟩, hB⟩ ⟨⟨post, hpost⟩, rfl⟩
    have hc := hv.cell
    have hpl : (Dag.ints pre).length ≤ 1000 := by
      rw [Dag.ints_len]
      have := congrArg List.length hpost
      rw [HN.out] at this
      simp at this
      omega
    clear hpost
    gi_wp2_with (gi_at_builtin; refine wpListIn_append_own _ rfl _ _ 27 rfl w.heap.size 3 i0 (.int .i64 0) 1 8 Tryd.underlying27 hi0 hz0 hz1 hz2 rfl (by decide) _ _ _ rfl (hrow.alloc _) ⟨X.heap.size, 0, none⟩ 1 1 [.int .i64 x] rfl rfl (cell_one_new _ _ _) (by simp [Value.oneCell']) (by simp only [maxLen]; omega) (by omega) (by have := hB.size; simp; omega) ?_; intro v' w1 hown' hgrow _; obtain ⟨g', cap', rfl⟩ := ownsRow_succ hown'; obtain ⟨hv1, hv2, hr2, hk2, hb2⟩ := hv.appended (by decide) hrow hB.size (Nat.le_refl _) hown' hgrow; have hc1 := hv1.cell; have hf1 := hv1.frozen)
    refine ⟨hk2, trivial, ⟨_, hv2, ?_, trivial⟩, hB.trans hb2⟩
    rw [show Dag.ints (pre ++ [x]) = Dag.ints pre ++ [.int .i64 x] from by simp [Dag.ints], List.length_append]
    exact hr2
  case done =>
    rintro D ys X hD rfl ⟨⟨vo, hv, hrow, _⟩, hB⟩ hK
    have hc := hv.cell
    gi_wp2_with fail
    refine ⟨by simp, .inl ⟨_, _, rfl, run_takeDeferred hK, ?_⟩⟩
    exact ⟨_, results_tmp rfl _ _ _, vo, rfl, ownsRow_putObj hrow _ hK rfl, hB.trans (belowK_b (w := w) (Nat.le_refl _) X D _ _ (by simp at hD; omega) hK rfl rfl)⟩
  case stop =>
    rintro D c pre X _ h _
    exact h.elim
theorem coll_own (xs : List Int) (n : Nat) (hn : xs.length = n) (hb : n ≤ 1000) (Bs : Nat) (A : Option Addr) (c : Nat) (w : World) (hc : w.cell? ⟨Bs, 0, none⟩ = some (.slice A n c)) (hI : Ints w A c xs) :
    Calls Tryd.prog 41 #[.func (.func 43) #[] #[.pointer (some ⟨Bs, 0, none⟩)]] w (RetOwnV w xs) := by
  have HA := Lib.hid ((callsIn_wide (n := 0)).1 (appi_in 0 xs n hn hb Bs A c w hc hI))
  clear hn hc hI
  go_enter Tryd.func41, Tryd.ntmps41
  go_wp2_with fail
  refine HA.out.mono ?_
  rintro e w1 ⟨v, rfl, ho, hb⟩
  have HO := Lib.hid ho; have HB := Lib.hid hb; clear ho hb
  go_wp2
  go_ret
  exact ⟨v, rfl, HO.out, HB.out⟩
/-- of numbers that are each of 0 .. n - 1 once: these in order -/
theorem sorted_any (xs : List Int) (n : Nat) (hn : xs.length = n) (hb : n ≤ 1000) (hm : ∀ v : Nat, v < n → (v : Int) ∈ xs) (Bs : Nat) (A : Option Addr) (c : Nat) (w : World) (hc : w.cell? ⟨Bs, 0, none⟩ = some (.slice A n c)) (hI : Ints w A c xs) :
    Calls Tryd.prog 26 #[.func (.func 43) #[] #[.pointer (some ⟨Bs, 0, none⟩)]] w (Dag.RetL w (num (List.range n))) := by
  have HA := Lib.hid (coll_own xs n hn hb Bs A c w hc hI)
  have HM := Lib.hid hm; have HN := Lib.hid hn
  clear hn hc hI hm
  unfold Dag.RetL
  rw [num_len, List.length_range]
  go_enter Tryd.func26, Tryd.ntmps26
  go_wp2_with fail
  refine HA.out.mono ?_
  rintro e w1 ⟨v, rfl, ho, hb1⟩
  have HB := Lib.hid hb1
  obtain ⟨A1, c1, rfl, hsl, hA1⟩ := Own1.slice ho
  have HO := Lib.hid ho
  rw [Dag.ints_len, HN.out] at HO ⊢
  clear hb1 hsl ho
  rcases hA1 with rfl | ⟨g, rfl⟩
  · have hn0 : n = 0 := by
      rcases HO.out.2 with ⟨e, _⟩ | ⟨g, _, _, e, _⟩
      · injection e
      · injection e with e1; cases e1
    subst hn0
    go_wp2_with fail
    refine (Any.slices_Sort_int_none Tryd.lays189 none c1 w1).mono ?_
    rintro e w2 ⟨rfl, rfl⟩
    have hx : xs = [] := List.eq_nil_of_length_eq_zero HN.out
    subst hx
    have HI2 := Lib.hid (Dag.OwnI.ints' HO.out).2
    go_wp2
    go_ret
    exact ⟨none, c1, rfl, HI2.out, HB.out, fun a ha => by cases ha⟩
  · go_wp2_with fail
    refine (sort_any xs n w1 w.heap.size g c1 HO.out (by omega)).mono ?_
    rintro e w2 ⟨rfl, ⟨ys, h1, h2, h3, h4⟩, hg⟩
    have hys : ys = num (List.range n) := srt_range (by rw [h2, HN.out]) (fun v hv => (h1 v).2 (HM.out v hv)) h3
    have HI2 := Lib.hid (Dag.OwnI.ints' h4).2
    rw [hys] at HI2
    have HGW := Lib.hid hg
    have hge := (Own1.lt HO.out (b := g) rfl).1
    clear hg h1 h2 h3 h4 hys
    go_wp2
    go_ret
    exact ⟨_, _, rfl, HI2.out, HB.out.grown HGW.out HB.out.size (fun k e => by injection e with e; subst e; exact hge), fun a ha => by injection ha with ha; subst ha; exact hge⟩
theorem pathc_any (xs : List Int) (n : Nat) (hn : xs.length = n) (ub : Nat) (B : Option Addr) (d : Nat) (v x : Nat) (y1 y2 : Int) (hv : xs[v]? = some y1) (hx : xs[x]? = some y2) (w : World) (hI : Ints w B d xs) (hc : w.cell? ⟨ub, 0, none⟩ = some (.slice B n d)) :
    Calls Tryd.prog 25 #[.int .i64 v, .int .i64 x, .pointer (some ⟨ub, 0, none⟩)] w fun e w' => e = .returned (.int .i64 (Sri.cmpV y1 y2)) ∧ Below w.heap.size w w' := by
  have hvn : v < n := by rw [← hn]; exact (List.getElem?_eq_some_iff.1 hv).1
  have hxn : x < n := by rw [← hn]; exact (List.getElem?_eq_some_iff.1 hx).1
  obtain ⟨b1, o1, e1, c1⟩ := hI.cells v (.int .i64 y1) (by unfold Dag.ints; rw [List.getElem?_map, hv]; rfl)
  obtain ⟨b2, o2, e2, c2⟩ := hI.cells x (.int .i64 y2) (by unfold Dag.ints; rw [List.getElem?_map, hx]; rfl)
  subst e1
  injection e2 with e2; injection e2 with e3 e4; subst e3 e4
  have HC := Lib.hid fun (W : World) => Sri.compare_any y1 y2 W
  obtain ⟨r, hr⟩ : ∃ r, Sri.cmpV y1 y2 = r := ⟨_, rfl⟩
  rw [hr] at HC ⊢
  clear hI hn hv hx hr
  go_enter Tryd.func25, Tryd.ntmps25
  go_wp2_with fail
  have s0 : w.drew.cell? ⟨ub, 0, none⟩ = some (.slice (some ⟨b1, o1, none⟩) n d) ∧ w.drew.cell? ⟨b1, o1 + v, none⟩ = some (.int .i64 y1) ∧ w.drew.cell? ⟨b1, o1 + x, none⟩ = some (.int .i64 y2) ∧ Below w.heap.size w w.drew := ⟨hc, c1, c2, Sri.dr w⟩
  clear hc c1 c2
  go_region_held3 (fun (W : World) => W.cell? ⟨ub, 0, none⟩ = some (.slice (some ⟨b1, o1, none⟩) n d) ∧ W.cell? ⟨b1, o1 + v, none⟩ = some (.int .i64 y1) ∧ W.cell? ⟨b1, o1 + x, none⟩ = some (.int .i64 y2) ∧ Below w.heap.size w W) (first | exact s0) (first
    | (go_at_call 24; refine (HC.out _).mono ?_; rintro e x1 ⟨rfl, rfl⟩))
  go_wp2
  go_ret
  exact ⟨rfl, s0.2.2.2⟩
/-- the first one with the greatest number, of some tasks -/
theorem maxf_any (xs : List Int) (n : Nat) (hn : xs.length = n) (T : List Nat) (m : Nat) (hm : T.length = m) (hm0 : 0 < m) (hm1 : m ≤ 1000) (hT : ∀ v ∈ T, v < n) (ub : Nat) (B : Option Addr) (d : Nat) (A : Option Addr) (c : Nat) (w : World) (hI : Ints w B d xs) (hc : w.cell? ⟨ub, 0, none⟩ = some (.slice B n d)) (hL : Ints w A c (num T)) :
    Calls Tryd.prog 28 #[.slice A m c, .func (.func 25) #[] #[.pointer (some ⟨ub, 0, none⟩)]] w fun e w' => ∃ b : Nat, bstT (atL xs) T = some b ∧ b ∈ T ∧ e = .returned (.int .i64 b) ∧ Below w.heap.size w w' := by
  have HI := Lib.hid hI; have HC0 := Lib.hid hc; have HL := Lib.hid hL; have HN := Lib.hid hn; have HM := Lib.hid hm; have HT := Lib.hid hT
  obtain ⟨x0, hx0⟩ : ∃ x, T[0]? = some x := ⟨_, List.getElem?_eq_getElem (by omega)⟩
  obtain ⟨ba, oa, eA, c0⟩ := hL.cells 0 (.int .i64 (x0 : Int)) (by unfold Dag.ints; rw [List.getElem?_map, num_get, hx0]; rfl)
  subst eA
  rw [Nat.add_zero] at c0
  have HX0 := Lib.hid hx0
  clear hI hc hL hn hm hT hx0
  have hnz : ¬ (m : Int) < 1 := by omega
  go_enter Tryd.func28, Tryd.ntmps28
  go_wp2
  go_loopw [5, 6] (fun vm vi wr => ∃ (k b : Nat), 1 ≤ k ∧ k ≤ m ∧ vi = .int .i64 k ∧ vm = .int .i64 b ∧ Hid (bstT (atL xs) (T.take k) = some b ∧ b ∈ T) ∧ Hid (Below w.heap.size w wr)) (fun _ vi _ => m - (intOf vi).toNat)
  case atStart => exact ⟨1, x0, Nat.le_refl _, hm0, rfl, rfl, Lib.hid ⟨by rw [bstT_take _ HX0.out]; rfl, List.mem_of_getElem? HX0.out⟩, Lib.hid (Below.refl _ _)⟩
  case round =>
    obtain ⟨k, b, hk1, hk2, rfl, rfl, HS, HB⟩ := hrel
    by_cases hlt : k < m
    · obtain ⟨x, hx⟩ : ∃ x, T[k]? = some x := ⟨_, List.getElem?_eq_getElem (by rw [HM.out]; exact hlt)⟩
      obtain ⟨ba', oa', eA, ck⟩ := (HL.out.below HB.out).cells k (.int .i64 (x : Int)) (by unfold Dag.ints; rw [List.getElem?_map, num_get, hx]; rfl)
      injection eA with eA; injection eA with e1 e2; subst e1 e2
      have hxT := List.mem_of_getElem? hx
      obtain ⟨y1, hy1⟩ : ∃ y, xs[x]? = some y := ⟨_, List.getElem?_eq_getElem (by rw [HN.out]; exact HT.out x hxT)⟩
      obtain ⟨y2, hy2⟩ : ∃ y, xs[b]? = some y := ⟨_, List.getElem?_eq_getElem (by rw [HN.out]; exact HT.out b HS.out.2)⟩
      have HC := Lib.hid fun (W : World) (hW : Below wr.heap.size wr W) => pathc_any xs n HN.out ub B d x b y1 y2 hy1 hy2 W ((HI.out.below HB.out).below hW) (Sri.kp hW (Sri.kp HB.out HC0.out))
      have hst : bstT (atL xs) (T.take (k + 1)) = if y2 < y1 then some x else some b := by
        rw [bstT_take _ hx, HS.out.1]
        show (if atL xs b < atL xs x then some x else some b) = _
        rw [atL_some hy1, atL_some hy2]
      obtain ⟨r, hr⟩ : ∃ r, Sri.cmpV y1 y2 = r := ⟨_, rfl⟩
      rw [hr] at HC
      have hrp : 0 < r ↔ y2 < y1 := by
        rw [← hr]
        unfold Sri.cmpV
        repeat' split
        all_goals omega
      by_cases hp : 0 < r
      · rw [if_pos (hrp.1 hp)] at hst
        have HS2 := Lib.hid (And.intro hst hxT)
        clear hst hr hrp hx hy1 hy2 hxT
        go_wp2_with fail
        refine (HC.out _ (Below.refl _ _)).mono ?_
        rintro e x1 ⟨rfl, hb1⟩
        have HB2 := Lib.hid (blw HB.out hb1)
        have c1 := Sri.kp hb1 ck
        clear hb1 ck
        go_wp2
        go_roundw
        case rel => exact ⟨k + 1, x, by omega, by omega, by go_num, rfl, HS2, HB2⟩
        case measure => simp [intOf]; omega
      · rw [if_neg (fun h => hp (hrp.2 h))] at hst
        have HS2 := Lib.hid (And.intro hst HS.out.2)
        clear hst hr hrp hx hy1 hy2 hxT
        go_wp2_with fail
        refine (HC.out _ (Below.refl _ _)).mono ?_
        rintro e x1 ⟨rfl, hb1⟩
        have HB2 := Lib.hid (blw HB.out hb1)
        have c1 := Sri.kp hb1 ck
        clear hb1 ck
        go_wp2
        go_roundw
        case rel => exact ⟨k + 1, b, by omega, by omega, by go_num, rfl, HS2, HB2⟩
        case measure => simp [intOf]; omega
    · obtain rfl : k = m := by omega
      have hf := HS.out
      rw [List.take_of_length_le (by rw [HM.out]; exact Nat.le_refl _)] at hf
      have HF := Lib.hid hf
      clear hf
      go_wp2
      go_ret
      exact ⟨b, HF.out.1, HF.out.2, rfl, HB.out⟩
def wayN (v : Value) : Nat := match v with
  | .slice _ n _ => n
  | _ => 0
theorem chain_len (ts : List TaskD) (U : Nat → Int) : ∀ k v, (chainD ts U k v).length ≤ k
  | 0, v => Nat.zero_le _
  | k + 1, v => by
    simp only [chainD]
    cases nxtD ts U v with
    | none => exact Nat.zero_le _
    | some b => have := chain_len ts U k b; simp only [List.length_cons]; omega
theorem tail_len (ts : List TaskD) (U : Nat → Int) (o : Option Nat) : (tailD ts U o).length ≤ ts.length + 1 := by
  cases o with
  | none => exact Nat.zero_le _
  | some b => have := chain_len ts U ts.length b; simp only [tailD, List.length_cons]; omega
set_option maxHeartbeats 3200000 in
theorem path_any (f : FlowD) (A : Option Addr) (c : Nat) (w : World) (h : FlA w f A c) :
    Calls Tryd.prog 12 #[.agg #[.string (sb f.name), .int .i64 f.deadline, .int .i64 f.priority, .slice A f.tasks.length c]] w fun e w' => ∃ B d, e = .returned (.tuple #[.slice B (pathV f).length d, .int .i64 (rankE f (upD f.tasks))]) ∧ Ints w' B d (num (pathV f)) ∧ Below w.heap.size w w' := by
  have HR := Lib.hid fun W (hW : Below w.heap.size w W) => ranked_any f A c W (h.below hW)
  have hlen := h.len
  clear h
  unfold RetR at HR
  by_cases h0 : rankE f (upD f.tasks) = 0
  · obtain ⟨hf, hV, hWt⟩ := chk_facts (rank_yes h0).1
    have HF := Lib.hid hf
    have HEL := Lib.hid (afterL_len f.tasks)
    have hxn : (rankV f (upD f.tasks)).length = f.tasks.length := by unfold rankV numsU; rw [if_pos h0]; simp
    have hpe : pathV f = tailD f.tasks (atL (rankV f (upD f.tasks))) (nxtD f.tasks (atL (rankV f (upD f.tasks))) (-1)) := by unfold pathV; rw [if_pos h0]; rfl
    rw [hxn] at HR
    rw [h0]
    obtain ⟨xs, hxs⟩ : ∃ xs, rankV f (upD f.tasks) = xs := ⟨_, rfl⟩
    rw [hxs, h0] at HR
    rw [hxs] at hpe hxn
    obtain ⟨P, hP⟩ : ∃ P, pathV f = P := ⟨_, rfl⟩
    rw [hP] at hpe ⊢
    have HPE := Lib.hid hpe; have HXN := Lib.hid hxn
    clear hxs hxn h0 hpe hP
    go_enter Tryd.func12, Tryd.ntmps12
    go_wp2_with fail
    refine (HR.out _ (al w _)).mono ?_
    rintro e w1 ⟨p, B, d, rfl, hi, hb, hg, _⟩
    have HG := Lib.hid (hg (by first | rfl | trivial))
    have HB := Lib.hid (blw (al w _) hb)
    have HI := Lib.hid hi
    have hbx := Boxed.new w1 27 (.slice B f.tasks.length d)
    have hba : Below w1.heap.size w1 (w1.alloc (.cells #[.slice B f.tasks.length d] 27)) := al _ _
    clear hi hb hg
    go_wp2_with fail
    have hsz1 : w1.heap.size < (w1.alloc (.cells #[.slice B f.tasks.length d] 27)).heap.size := by simp
    generalize w1.alloc (.cells #[.slice B f.tasks.length d] 27) = wb at hbx hba hsz1 ⊢
    obtain ⟨ub, hub⟩ : ∃ ub, w1.heap.size = ub := ⟨_, rfl⟩
    rw [hub] at hbx hsz1 ⊢
    have HG2 := Lib.hid (HG.out.below hba); have HI2 := Lib.hid (HI.out.below hba); have HB2 := Lib.hid (blw HB.out hba); have HX2 := Lib.hid hbx.cell
    clear hbx hba HG HI HB hub hsz1
    refine (Dag.order_any _ (afterL f.tasks) (.pointer p) HG2.out (by rw [HEL.out]; exact hlen)).mono ?_
    rintro e w2 ⟨Ao, co, rfl, hio, hb2, _⟩
    rw [num_len, HF.out]
    have HIO := Lib.hid hio; have HB3 := Lib.hid (blw HB2.out hb2); have HG3 := Lib.hid (HG2.out.below hb2); have HI3 := Lib.hid (HI2.out.below hb2); have HX3 := Lib.hid (kp_cell hb2 HX2.out)
    clear hio hb2 HG2 HI2 HB2 HX2
    go_wp2_with fail
    refine (vals_any Ao f.tasks.length co w2).mono ?_
    rintro e w3 ⟨rfl, hw3⟩
    have hb3 : Below w2.heap.size w2 w3 := by rw [hw3]; exact al _ _
    have hcv : w3.cell? ⟨w2.heap.size, 0, none⟩ = some (.slice Ao f.tasks.length co) := by rw [hw3]; exact (Boxed.new w2 27 _).cell
    have HIO3 := Lib.hid (HIO.out.below hb3); have HB4 := Lib.hid (blw HB3.out hb3); have HG4 := Lib.hid (HG3.out.below hb3); have HI4 := Lib.hid (HI3.out.below hb3); have HX4 := Lib.hid (kp_cell hb3 HX3.out); have HCV := Lib.hid hcv
    clear hw3 hb3 hcv HG3 HI3 HB3 HX3 HIO
    obtain ⟨vb, hvb⟩ : ∃ vb, w2.heap.size = vb := ⟨_, rfl⟩
    rw [hvb] at HCV ⊢
    clear hvb
    go_wp2_with fail
    refine (sorted_any (num (order (afterL f.tasks))) f.tasks.length (by rw [num_len, HF.out]) (by omega) (fun v hv => List.mem_map.2 ⟨v, (ord_all HF.out v).2 hv, rfl⟩) vb Ao co w3 HCV.out HIO3.out).mono ?_
    rintro e w4 ⟨At, ct, rfl, hit, hb4, _⟩
    rw [num_len, List.length_range]
    have HIT := Lib.hid hit; have HB5 := Lib.hid (blw HB4.out hb4); have HG5 := Lib.hid (HG4.out.below hb4); have HI5 := Lib.hid (HI4.out.below hb4); have HX5 := Lib.hid (kp_cell hb4 HX4.out)
    clear hit hb4 HG4 HI4 HB4 HX4 HIO3 HCV
    have HPL : Hid (P.length ≤ 1000) := Lib.hid (by rw [HPE.out]; have := tail_len f.tasks (atL xs) (nxtD f.tasks (atL xs) (-1)); omega)
    have HS0 : Hid (bstT (atL xs) (List.range f.tasks.length) = nxtD f.tasks (atL xs) (-1)) := Lib.hid (nxt_all _ _).symm
    have HTS := Lib.hid fun b (hb : b < f.tasks.length) => tail_step hf hV (atL xs) hb
    have HBL := Lib.hid fun (v : Nat) (hv : v < f.tasks.length) => Dag.rev_row (E := afterL f.tasks) v (by rw [HEL.out]; exact hv)
    have HBN := Lib.hid fun (v : Nat) => Dag.row_short (f := behL (afterL f.tasks)) (n := f.tasks.length) hlen (fun v _ => ⟨Dag.beh_nodup _ v, fun u hu => by have := (Dag.beh_mem.1 hu).1; rwa [afterL_len] at this⟩) v
    have HNB := Lib.hid fun (v : Nat) => nxt_of f.tasks (atL xs) v
    have HBE := Lib.hid fun (v u : Nat) (hu : u ∈ behL (afterL f.tasks) v) => (by have := (Dag.beh_mem.1 hu).1; rwa [afterL_len] at this : u < f.tasks.length)
    have HRL : Hid ((Dag.rev (afterL f.tasks)).length = f.tasks.length) := Lib.hid (by rw [Dag.rev_len, HEL.out])
    clear hf hV hWt
    go_wp2
    go_loopw [8, 9] (fun vp vt wr => ∃ (P1 T : List Nat) (o : Option Nat) (k m : Nat) (Ap : Option Addr) (cp : Nat) (Au : Option Addr) (cu : Nat), m ≤ 1000 ∧ vp = .slice Ap k cp ∧ vt = .slice Au m cu ∧ Hid (T.length = m ∧ P1.length = k) ∧ Hid (Ints wr Au cu (num T)) ∧ Hid (Own1 wr w4.heap.size 3 (.slice Ap k cp) (Dag.ints (num P1))) ∧ Hid (bstT (atL xs) T = o ∧ P = P1 ++ tailD f.tasks (atL xs) o ∧ ∀ v ∈ T, v < f.tasks.length) ∧ Hid (Below w4.heap.size w4 wr)) (fun vp _ _ => P.length - wayN vp)
    case atStart => exact ⟨[], List.range f.tasks.length, _, 0, f.tasks.length, none, 0, At, ct, by omega, rfl, rfl, Lib.hid ⟨List.length_range, rfl⟩, HIT, Lib.hid (Own1.nil _ _ _), Lib.hid ⟨HS0.out, HPE.out, fun v hv => List.mem_range.1 hv⟩, Lib.hid (Below.refl _ _)⟩
    case round =>
      obtain ⟨P1, T, o, k, m, Ap, cp, Au, cu, hm, rfl, rfl, HL, HT, HO, HS, HBW⟩ := hrel
      by_cases hm0 : 0 < m
      · have hxb := HBW.out
        have HC := Lib.hid (maxf_any xs f.tasks.length HXN.out T m HL.out.1 hm0 hm HS.out.2.2 ub B d Au cu wr (HI5.out.below hxb) (kp_cell hxb HX5.out) HT.out)
        clear hxb
        go_wp2_with fail
        refine HC.out.mono ?_
        rintro e w5 ⟨b, hb1, hb2, rfl, hb5⟩
        have hbn := HS.out.2.2 b hb2
        have ho : o = some b := by rw [← HS.out.1, hb1]
        subst ho
        have hpe := HS.out.2.1
        rw [HTS.out b hbn] at hpe
        have hkl : k < P.length := by rw [hpe, List.length_append, HL.out.2]; simp
        have HP2 : Hid (P = (P1 ++ [b]) ++ tailD f.tasks (atL xs) (nxtD f.tasks (atL xs) b)) := Lib.hid (by rw [hpe, List.append_assoc]; rfl)
        have HO5 := Lib.hid (Own1.below HO.out hb5)
        have HBW5 := Lib.hid (blw HBW.out hb5)
        have HPK : Hid (P1.length = k) := Lib.hid HL.out.2
        have hk1 : k ≤ 1000 := by have := HPL.out; omega
        have HKL := Lib.hid hkl
        have hsz2 := HBW5.out.size
        clear HC hb1 hb2 hb5 hpe hkl HS HT HO HBW
        go_wp2_with (at_builtin; refine Dag.wpList_appg rfl _ _ 27 3 (.int .i64 0) 8 Tryd.underlying27 Dag.info_int rfl (by decide) rfl w4.heap.size (.slice Ap k cp) (Dag.ints (num P1)) rfl (Own1.below HO5.out ((Below.refl _ _).alloc (Nat.le_refl _) _)) (some ⟨w5.heap.size, 0, none⟩) 1 1 [.int .i64 b] rfl rfl (Sl.one rfl) (by simp [Value.oneCell']) (by rw [Dag.ints_len, num_len, HPK.out]; simp; omega) (by simp; omega) ?_; intro l9 A9 c9 w9 el ho9 _ _ hbl9; have HO9 := Lib.hid ho9; have HBL9 := Lib.hid ((HBW5.out.alloc hsz2 _).trans hbl9); have EL := Lib.hid el; clear ho9 hbl9 el)
        have hgl : Dag.getL (Dag.rev (afterL f.tasks)) (b : Int) = num (behL (afterL f.tasks) b) := by
          unfold Dag.getL
          rw [if_pos ⟨by omega, by rw [HRL.out]; omega⟩, Int.toNat_natCast]
          exact HBL.out b hbn
        have hbh := Dag.behind_any w9 (afterL f.tasks) (.pointer p) (HG5.out.below HBL9.out) (by rw [HEL.out]; exact hlen) (b : Int)
        rw [hgl] at hbh
        refine hbh.mono ?_
        clear hbh hgl
        rintro e w10 ⟨Av, cv, rfl, hiv, hb10, _⟩
        rw [num_len]
        have HIV := Lib.hid hiv
        have HNW : Hid (l9 = Dag.ints (num (P1 ++ [b]))) := Lib.hid (by rw [EL.out]; simp [Dag.ints, num])
        have HNN : Hid (l9.length = k + 1) := Lib.hid (by rw [HNW.out, Dag.ints_len, num_len, List.length_append, HPK.out]; rfl)
        have HO10 := Lib.hid (Own1.below HO9.out hb10)
        have HBW10 := Lib.hid (blw HBL9.out hb10)
        have hbl := HBN.out b hbn
        rw [num_len] at hbl
        clear hiv hb10
        go_wp2
        go_roundw
        case rel => exact ⟨P1 ++ [b], behL (afterL f.tasks) b, _, k + 1, _, A9, c9, Av, cv, hbl, by rw [HNN.out], rfl, Lib.hid ⟨rfl, by rw [List.length_append, HPK.out]; rfl⟩, HIV, Lib.hid (by have := HO10.out; rw [HNN.out, HNW.out] at this; exact this), Lib.hid ⟨(HNB.out b).symm, HP2.out, fun u hu => HBE.out b u hu⟩, HBW10⟩
        case measure => have := HKL.out; show P.length - l9.length < P.length - k; rw [HNN.out]; omega
      · obtain rfl : m = 0 := by omega
        have hT0 : T = [] := List.eq_nil_of_length_eq_zero HL.out.1
        have hoN : o = none := by rw [← HS.out.1, hT0]; rfl
        have HPF : Hid (P = P1) := Lib.hid (by have := HS.out.2.1; rw [hoN] at this; simpa [tailD] using this)
        have HKP : Hid (P.length = k) := Lib.hid (by rw [HPF.out]; exact HL.out.2)
        have HOI := Lib.hid (Dag.OwnI.ints' HO.out).2
        have HBE := Lib.hid (blw HB5.out HBW.out)
        clear hT0 hoN
        go_wp2
        go_ret2
        exact ⟨Ap, cp, by rw [HKP.out]; rfl, by rw [HPF.out]; exact HOI.out, HBE.out⟩
  · have hv : rankV f (upD f.tasks) = [] := by unfold rankV; rw [if_neg h0]
    have HP0 : Hid (pathV f = []) := Lib.hid (by unfold pathV; rw [if_neg h0])
    have H0 := Lib.hid h0
    obtain ⟨e0, he0⟩ : ∃ e0, rankE f (upD f.tasks) = e0 := ⟨_, rfl⟩
    rw [hv, he0] at HR
    rw [he0] at H0 ⊢
    have hne : (e0 != 0) = true := by simpa using H0.out
    clear hv he0 h0
    rw [HP0.out]
    simp only [List.length_nil] at HR
    go_enter Tryd.func12, Tryd.ntmps12
    go_wp2_with fail
    refine (HR.out _ (al w _)).mono ?_
    rintro e w1 ⟨p, B, d, rfl, hi, hb, _, hp⟩
    have HB := Lib.hid (blw (al w _) hb)
    clear hi hb hp
    go_wp2
    go_ret2
    exact ⟨none, 0, rfl, Sl.empty _, blw HB.out (al _ _)⟩
end Go.Proofs.YtaiolhanbjndcaaDoor

