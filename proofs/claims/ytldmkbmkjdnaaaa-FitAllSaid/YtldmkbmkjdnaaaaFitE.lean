/- Layer 10: All. -/
import Derived.Test.YtldmkbmkjdnaaaaFitD
namespace Go.Proofs.Ytldmkbmkjdnaaaa.Ft
open Go.RowKit Go.Shelf
open Stp
open Dag (wide_call)
set_option linter.unusedVariables false
set_option maxRecDepth 100000
attribute [local go_sem] Oper.semAt_some

/-- windows of one's own -/
abbrev OwnW (w : World) (base : Nat) (v : Value) (l : List StepD) : Prop := w.ownsRow base 28 2 v l.length (flat l)
theorem OwnW.slice {w : World} {base : Nat} {v : Value} {l : List StepD} (h : OwnW w base v l) : ∃ A c, v = .slice A l.length c ∧ Stp w A c l := by
  rcases h.2 with ⟨hv, hn⟩ | ⟨g, cap, cur, hv, hbg, hh, h1, h2, h3, h4⟩
  · have hx : l = [] := List.eq_nil_of_length_eq_zero hn
    subst hx
    exact ⟨none, 0, hv, Stp.empty _⟩
  · have cell : ∀ i u, (flat l)[i]? = some u → w.cell? ⟨g, i, none⟩ = some u := fun i u hi => by
      rw [cell_of_row w g i cur _ (0, 0) hh]
      have hi1 : i < (flat l).length := (List.getElem?_eq_some_iff.1 hi).1
      rw [flat_len] at hi1
      have e' : (cur.toList.take (l.length * 2))[i]? = some u := by rw [h4]; exact hi
      rw [List.getElem?_take, if_pos (by omega)] at e'
      rw [← e', Array.getElem?_toList]
    refine ⟨_, cap, hv, ⟨fun k s hk => ⟨g, 0, rfl, ?_, ?_⟩, h1, h2, fun e => by cases e⟩⟩
    · rw [Nat.zero_add]; exact cell _ _ (flat_0 hk).1
    · rw [Nat.zero_add]; exact cell _ _ (flat_0 hk).2
theorem OwnW.nil (w : World) (base : Nat) : OwnW w base (.slice none 0 0) [] := World.ownsRow_nil w base _ 2
theorem OwnW.below {w w' : World} {base : Nat} {v : Value} {l : List StepD} (h : OwnW w base v l) (hb : Below w.heap.size w w') : OwnW w' base v l := by
  refine ⟨h.1, ?_⟩
  rcases h.2 with h0 | ⟨g, cap, cur, hv, hbg, hh, rest⟩
  · exact Or.inl h0
  · exact Or.inr ⟨g, cap, cur, hv, hbg, by rw [hb.block g (Dag.blk_lt hh)]; exact hh, rest⟩
theorem OwnW.keep {w w' : World} {base : Nat} {v : Value} {l : List StepD} (h : OwnW w base v l) (hk : ∀ (k : Nat) (o : Obj), w.heap[k]? = some o → o.isCells = true → w'.heap[k]? = some o) : OwnW w' base v l := by
  refine ⟨h.1, ?_⟩
  rcases h.2 with h0 | ⟨g, cap, cur, hv, hbg, hh, rest⟩
  · exact Or.inl h0
  · exact Or.inr ⟨g, cap, cur, hv, hbg, hk _ _ hh rfl, rest⟩
theorem info_win : (Try.prog.info? 28).map (fun i => (i.zero, i.size, i.bytes)) = some (some (.agg #[.int .i64 0, .int .i64 0]), 2, 16) := by kernel_rfl
theorem cell_two_new (w : World) (x y : Value) (t : TypeId) : ∀ j u, [x, y][j]? = some u → (w.alloc (.cells #[x, y] t)).cell? ((⟨w.heap.size, 0, none⟩ : Addr).add j) = some u := by
  obtain ⟨h0, h1⟩ := new2 w x y t
  intro j u hu
  rw [Go.WideShapes.add_plain, Nat.zero_add]
  match j, hu with
  | 0, hu => injection hu with hu; subst hu; exact h0
  | 1, hu => injection hu with hu; subst hu; exact h1
  | j + 2, hu => simp at hu
def RetW (w : World) (xs : List StepD) (e : Ending) (w' : World) : Prop := ∃ A c, e = .returned (.slice A xs.length c) ∧ Stp w' A c xs ∧ Below w.heap.size w w'
set_option maxHeartbeats 3200000 in
theorem appw_in (p : Nat) (R : List StepD) (hRl : R.length ≤ 1000000) (g0 g1 g2 g3 : Nat) (K : World → Prop) (w : World) (hK : ∀ W, Below w.heap.size w W → K W)
    (hseq : ∀ w0, SeqW (α := StepD) Try.prog (p - 1) 60 #[.pointer (some ⟨g0, 0, none⟩), .pointer (some ⟨g2, 0, none⟩), .pointer (some ⟨g1, 0, none⟩), .pointer (some ⟨g3, 0, none⟩)] (fun s => s = R) (winF R) K w0) :
    CallsIn Fence.wide p Try.prog 63 #[.slice none 0 0, itV g0 g1 g2 g3] w (RetW w R) := by
  obtain ⟨i0, hi0, hz0, hz1, hz2⟩ := info_parts info_win
  have HSQ := Lib.hid hseq
  have HKK := Lib.hid hK
  clear hseq hK
  refine callsIn_of_wp_marks Try.func63 rfl trivial ?_ rfl
  simp only [Try.ntmps63, List.size_toArray, List.length_cons, List.length_nil, Nat.reduceAdd, Nat.reduceSub, Array.replicate_succ, Array.replicate_zero, List.push_toArray, List.append_toArray, List.nil_append, List.cons_append]
  gi_wp2_with fail
  have bO := Boxed.new w 37 (.slice none 0 0)
  have hB0 : Below w.heap.size w (w.alloc (.cells #[.slice none 0 0] 37)) := al w _
  have hz : (w.alloc (.cells #[.slice none 0 0] 37)).heap.size = w.heap.size + 1 := by simp
  generalize w.alloc (.cells #[.slice none 0 0] 37) = wa at bO hB0 hz ⊢
  have hwB : Hid (w.heap.size ≤ w.heap.size) := Lib.hid (Nat.le_refl _)
  obtain ⟨B, hB⟩ : ∃ B, w.heap.size = B := ⟨_, rfl⟩
  rw [hB] at bO hB0 hz ⊢
  refine range_seqW (α := StepD) (gf := 60) (lb := #[.pointer (some ⟨g0, 0, none⟩), .pointer (some ⟨g2, 0, none⟩), .pointer (some ⟨g1, 0, none⟩), .pointer (some ⟨g3, 0, none⟩)]) rfl (fun args w => by simp [go_sem]) (fun pre x args X h => by obtain ⟨_, rfl⟩ := h; rfl)
    (HSQ.out wa) (Below.refl _ _) (fun pre x args X Y h => h)
    (fun pre X => (∃ vo, Boxed X B 37 vo ∧ OwnW X B vo pre) ∧ Below B w X ∧ B + 1 ≤ X.heap.size)
    ?oi ?oip ?ok ⟨⟨_, bO, OwnW.nil _ _⟩, hB0, by omega⟩ (fun args => Obj.cells (match args[0]?.getD undef with | Value.agg xs => xs | _ => #[]) 28)
    (fun args g => { tmps := #[.slice none 0 0, itV g0 g1 g2 g3, .pointer (some ⟨B, 0, none⟩), undef, .slice none 0 0, .pointer (some ⟨g, 0, none⟩), itV g0 g1 g2 g3, args[0]?.getD undef, undef, undef, undef, undef, undef], defers := [] }) ?assign ?body ?done
  case oi =>
    rintro pre X Y ⟨⟨vo, h1, h2⟩, h3, h4⟩ hb
    exact ⟨⟨vo, (hb.block _ h1.lt).trans h1, h2.below hb⟩, h3.trans (hb.mono (by omega)), Nat.le_trans h4 hb.size⟩
  case oip =>
    rintro pre X l2 o o' ⟨⟨vo, h1, h2⟩, h3, h4⟩ hl ho hoc
    exact ⟨⟨vo, (World.putObj_heap_other (by omega)).trans h1, ownsRow_putObj h2 _ ho hoc⟩, h3.trans (below_put _ _ (by omega) (Dag.blk_lt ho)), by simpa using h4⟩
  case ok =>
    rintro pre X ⟨_, h3, h4⟩
    exact HKK.out _ (by rw [hB]; exact h3)
  case assign =>
    rintro l2 pre x args X K ⟨_, rfl⟩ hK
    gi_wp2
    exact hK
  case body =>
    rintro l2 pre x args X g ⟨⟨vo, hv, hrow⟩, h3, h4⟩ ⟨⟨post, hpost⟩, rfl⟩ hg hle
    have hc := hv.cell
    have hpl : pre.length ≤ 1000000 := by
      have := congrArg List.length hpost
      simp at this; omega
    have c3 : X.cell? ⟨g, 0, none⟩ = some (.int .i64 x.at_) := Dag.blk_cell hg 0
    have c4 : X.cell? ⟨g, 1, none⟩ = some (.int .i64 x.fr) := Dag.blk_cell hg 1
    clear hpost hg
    gi_wp2_with (gi_at_builtin; refine wpListIn_append_own _ rfl _ _ 37 rfl B 28 i0 (.agg #[.int .i64 0, .int .i64 0]) 2 16 Try.underlying37 hi0 hz0 hz1 hz2 rfl (by decide) _ _ _ rfl (World.ownsRow.alloc hrow _) ⟨X.heap.size, 0, none⟩ 1 1 [.int .i64 x.at_, .int .i64 x.fr] rfl rfl (cell_two_new _ _ _ _) (by simp [Value.oneCell']) (by simp only [maxLen]; omega) (by omega) (by simp; omega) ?_; intro v' w1 hown' hgrow _; obtain ⟨g', cap', rfl⟩ := ownsRow_succ hown'; obtain ⟨hv1, hv2, hr2, hk2, hb2⟩ := hv.appended (by decide) hrow (by omega) (Nat.le_refl _) hown' hgrow; have hc1 := hv1.cell; have hf1 := hv1.frozen)
    refine ⟨hk2, ⟨_, hv2, ?_⟩, h3.trans hb2, Nat.le_trans h4 hb2.size⟩
    unfold OwnW
    rw [flat_app, List.length_append, List.length_singleton]
    exact hr2
  case done =>
    rintro D pre X hD hS ⟨⟨vo, hv, hrow⟩, h3, h4⟩ hdef
    subst hS
    have hc := hv.cell
    obtain ⟨A, c, rfl, hi⟩ := OwnW.slice hrow
    have HDF := Lib.hid hdef; have HR := Lib.hid hrow
    clear hdef hi hrow
    gi_wp2_with fail
    refine leaves_marksB (base := B) [D] X ⟨List.nodup_cons.2 ⟨by simp, List.nodup_nil⟩, fun D' hD' => by obtain rfl := List.mem_singleton.1 hD'; exact HDF.out⟩ (fun D' hD' => by obtain rfl := List.mem_singleton.1 hD'; omega) fun W' hB' hk hsz => ?_
    have hr2 : OwnW W' B (.slice A pre.length c) pre := OwnW.keep HR.out fun k o ho hoc => (hk k (fun D' hD' e => by
      obtain rfl := List.mem_singleton.1 hD'
      subst e
      rw [HDF.out] at ho; injection ho with ho; subst ho; cases hoc)).trans ho
    obtain ⟨A2, c2, e2, hi2⟩ := OwnW.slice hr2
    injection e2 with e2 e3 e4
    subst e2 e4
    exact ⟨_, results_tmp rfl _ _ _, A, c, rfl, hi2, by first | (rw [hB]; exact h3.trans hB') | exact h3.trans hB'⟩

theorem collw_any (R : List StepD) (hRl : R.length ≤ 1000000) (g0 g1 g2 g3 : Nat) (K : World → Prop) (w : World) (hK : ∀ W, Below w.heap.size w W → K W)
    (hseq : ∀ w0, SeqW (α := StepD) Try.prog (3 - 1) 60 #[.pointer (some ⟨g0, 0, none⟩), .pointer (some ⟨g2, 0, none⟩), .pointer (some ⟨g1, 0, none⟩), .pointer (some ⟨g3, 0, none⟩)] (fun s => s = R) (winF R) K w0) :
    Calls Try.prog 49 #[itV g0 g1 g2 g3] w (RetW w R) := by
  have HA := Lib.hid ((callsIn_wide (n := 3)).1 (appw_in 3 R hRl g0 g1 g2 g3 K w hK hseq))
  clear hK hseq
  go_enter Try.func49, Try.ntmps49
  go_wp2_with fail
  refine HA.out.mono ?_
  rintro e w1 ⟨A, c, rfl, hi, hb⟩
  have HI := Lib.hid hi; have HB := Lib.hid hb; clear hi hb
  go_wp2
  go_ret
  exact ⟨A, c, rfl, HI.out, HB.out⟩
def RetW2 (w : World) (xs : List StepD) (x : Int) (e : Ending) (w' : World) : Prop := ∃ A c, e = .returned (.tuple #[.slice A xs.length c, .int .i64 x]) ∧ Stp w' A c xs ∧ Below w.heap.size w w'
set_option maxHeartbeats 1600000 in
theorem all_any (l : List StepD) (a b n d : Int) (A : Option Addr) (m c : Nat) (hm : l.length = m) (w : World) (h : Stp w A c l) :
    Calls Try.prog 24 #[.slice A m c, .agg #[.int .i64 a, .int .i64 b], .int .i64 n, .int .i64 d] w (RetW2 w (allL l a b n d) (reqE l a b n d)) := by
  have HC := Lib.hid fun W (hW : Below w.heap.size w W) => fcheck_any l a b n d A m c hm W (h.below hW)
  obtain ⟨x0, x1⟩ := new2 w (.int .i64 a) (.int .i64 b) 28
  unfold allL
  rcases req_or l a b n d with hr | hr
  · obtain ⟨hp, ha, hb, hn, hd, hl⟩ := req_bds hr
    rw [hr] at HC ⊢
    rw [if_pos rfl]
    obtain ⟨R, hR⟩ : ∃ R, fitL l n d a b = R := ⟨_, rfl⟩
    have hRl : R.length ≤ 1000000 := by
      rw [← hR]; unfold fitL
      exact Nat.le_trans (gap_len l 0) (by have := hp.len; omega)
    rw [hR]
    have HST := Lib.hid fun W => starts_any a b n d A m c W
    have HCO := Lib.hid fun g0 g1 g2 g3 W (hS : Stp W A c l) (hI : StI W g0 g1 g2 g3 A m c a b (nN n d) d) => collw_any R hRl g0 g1 g2 g3 (fun X => StI X g0 g1 g2 g3 A m c a b (nN n d) d ∧ Stp X A c l) W (fun X hX => ⟨hI.below hX, hS.below hX⟩) (st1_seqW 2 l A m c hm a b (nN n d) d ha hb hd hl g0 g1 g2 g3 R hR)
    have HS := Lib.hid h
    clear h hm hr hp hl hR hRl
    go_enter Try.func24, Try.ntmps24
    go_wp2_with fail
    refine (HC.out _ (al w _)).mono ?_
    rintro e w1 ⟨rfl, hb1⟩
    have HB1 := Lib.hid (blw (al w _) hb1)
    have y0 := kp hb1 x0; have y1 := kp hb1 x1
    have z := (hb1.block _ (by simp)).trans (heap_alloc_new w (.cells #[.int .i64 a, .int .i64 b] 28))
    clear hb1
    go_wp2_with fail
    refine (HST.out _).mono ?_
    rintro e w2 ⟨g0, g1, g2, g3, rfl, hst, _, hb2⟩
    have HST2 := Lib.hid hst; have HB2 := Lib.hid (blw HB1.out hb2)
    clear hst hb2
    go_wp2_with fail
    refine (HCO.out g0 g1 g2 g3 _ (HS.out.below HB2.out) HST2.out).mono ?_
    rintro e w3 ⟨A3, c3, rfl, hi, hb3⟩
    have HI := Lib.hid hi; have HB3 := Lib.hid (blw HB2.out hb3)
    clear hi hb3
    go_wp2
    go_ret2
    exact ⟨A3, c3, rfl, HI.out, HB3.out⟩
  · rw [hr] at HC ⊢
    rw [if_neg (by decide)]
    clear h hm hr
    go_enter Try.func24, Try.ntmps24
    go_wp2_with fail
    refine (HC.out _ (al w _)).mono ?_
    rintro e w1 ⟨rfl, hb1⟩
    have HB1 := Lib.hid (blw (al w _) hb1)
    clear hb1
    go_wp2
    go_ret2
    exact ⟨none, 0, rfl, Stp.empty _, HB1.out⟩
end Go.Proofs.Ytldmkbmkjdnaaaa.Ft

