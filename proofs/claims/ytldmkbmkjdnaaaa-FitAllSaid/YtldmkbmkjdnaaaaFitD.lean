/- Layer 10: Last; All. -/
import Derived.Test.YtldmkbmkjdnaaaaFitC
namespace Go.Proofs.Ytldmkbmkjdnaaaa.Ft
open Go.RowKit Go.Shelf
open Stp
open Dag (wide_call)
set_option linter.unusedVariables false
set_option maxRecDepth 100000
attribute [local go_sem] Oper.semAt_some

theorem StI.stays {N : Nat} {W W' : World} {g0 g1 g2 g3 : Nat} {A : Option Addr} {m c : Nat} {a b n d : Int} (h : StI W g0 g1 g2 g3 A m c a b n d) (lt : g0 < N ∧ g1 < N ∧ g2 < N ∧ g3 < N) (hb : Below N W W') : StI W' g0 g1 g2 g3 A m c a b n d :=
  ⟨(hb.cell (p := ⟨g0, 0, none⟩) lt.1).trans h.l, (hb.cell (p := ⟨g1, 0, none⟩) lt.2.1).trans h.w0, (hb.cell (p := ⟨g1, 1, none⟩) lt.2.1).trans h.w1, (hb.cell (p := ⟨g2, 0, none⟩) lt.2.2.1).trans h.n, (hb.cell (p := ⟨g3, 0, none⟩) lt.2.2.2).trans h.d⟩
theorem StI.lt {W : World} {g0 g1 g2 g3 : Nat} {A : Option Addr} {m c : Nat} {a b n d : Int} (h : StI W g0 g1 g2 g3 A m c a b n d) : g0 < W.heap.size ∧ g1 < W.heap.size ∧ g2 < W.heap.size ∧ g3 < W.heap.size :=
  ⟨World.block_lt_of_cell? W _ h.l, World.block_lt_of_cell? W _ h.w0, World.block_lt_of_cell? W _ h.n, World.block_lt_of_cell? W _ h.d⟩
theorem set_oth {W : World} {b k i : Nat} {x v : Value} (hne : k ≠ b) (h : W.cell? ⟨k, i, none⟩ = some v) : (W.setCell ⟨b, 0, none⟩ x).cell? ⟨k, i, none⟩ = some v := by
  rw [World.cell?_of_block (w := W) (a := ⟨k, i, none⟩) (Below.heap_setCell _ _ _ _ hne)]; exact h
theorem StI.set {W : World} {g0 g1 g2 g3 : Nat} {A : Option Addr} {m c : Nat} {a b n d : Int} (h : StI W g0 g1 g2 g3 A m c a b n d) {p : Nat} (x : Value) (ne : g0 ≠ p ∧ g1 ≠ p ∧ g2 ≠ p ∧ g3 ≠ p) : StI (W.setCell ⟨p, 0, none⟩ x) g0 g1 g2 g3 A m c a b n d :=
  ⟨set_oth ne.1 h.l, set_oth ne.2.1 h.w0, set_oth ne.2.1 h.w1, set_oth ne.2.2.1 h.n, set_oth ne.2.2.2 h.d⟩
def lstE : List StepD → Int
  | [] => 70
  | _ :: _ => 0
theorem lst_app (pre : List StepD) (x : StepD) : lstV (pre ++ [x]) = x.fr ∧ fstE (pre ++ [x]) = 0 := by
  refine ⟨lastV_snoc _ _ _, ?_⟩
  cases pre <;> rfl
set_option maxHeartbeats 3200000 in
theorem last_any (l : List StepD) (a b n d : Int) (A : Option Addr) (m c : Nat) (hm : l.length = m) (w : World) (h : Stp w A c l) :
    Calls Try.prog 18 #[.slice A m c, .agg #[.int .i64 a, .int .i64 b], .int .i64 n, .int .i64 d] w fun e w' => e = .returned (.tuple #[.int .i64 (lastR l a b n d), .int .i64 (firstE l a b n d)]) ∧ Below w.heap.size w w' := by
  have HC := Lib.hid fun W (hW : Below w.heap.size w W) => fcheck_any l a b n d A m c hm W (h.below hW)
  unfold lastR firstE
  refine (callsIn_wide (n := 3)).1 (callsIn_of_wp_marks Try.func18 rfl trivial ?_ rfl)
  simp only [Try.ntmps18, List.size_toArray, List.length_cons, List.length_nil, Nat.reduceAdd, Nat.reduceSub, Array.replicate_succ, Array.replicate_zero, List.push_toArray, List.append_toArray, List.nil_append, List.cons_append]
  refine wpIn_wide.2 ?_
  have zq := heap_alloc_new w (.cells #[.int .i64 a, .int .i64 b] 28)
  rcases req_or l a b n d with hr | hr
  case inr =>
    rw [hr] at HC ⊢
    rw [if_neg (by decide), if_neg (by decide)]
    clear h hm hr
    go_wp2_with fail
    refine (HC.out _ (al w _)).mono ?_
    rintro e w1 ⟨rfl, hb1⟩
    have HB1 := Lib.hid (blw (al w _) hb1)
    clear hb1
    go_wp2
    exact ⟨_, results_tmp2 rfl _ _ _, rfl, HB1.out⟩
  obtain ⟨hp, ha, hb, hn, hd, hl⟩ := req_bds hr
  obtain ⟨R, hR⟩ : ∃ R, fitL l n d a b = R := ⟨_, rfl⟩
  rw [hr] at HC ⊢
  rw [if_pos rfl, if_pos rfl, hR]
  have HST := Lib.hid fun W => starts_any a b n d A m c W
  have HSQ := Lib.hid fun g0 g1 g2 g3 W => st1_seqB 2 l A m c hm a b (nN n d) d ha hb hd hl g0 g1 g2 g3 R hR W
  have HS := Lib.hid h
  clear h hm hl hR hr hp
  go_wp2_with fail
  refine (HC.out _ (al w _)).mono ?_
  rintro e w1 ⟨rfl, hb1⟩
  have HB1 := Lib.hid (blw (al w (.cells #[.int .i64 a, .int .i64 b] 28)) hb1)
  have zw := (hb1.block _ (by simp)).trans zq
  have y0 : w1.cell? ⟨w.heap.size, 0, none⟩ = some (.int .i64 a) := Dag.blk_cell zw 0
  have y1 : w1.cell? ⟨w.heap.size, 1, none⟩ = some (.int .i64 b) := Dag.blk_cell zw 1
  have hws : w.heap.size < w1.heap.size := Dag.blk_lt zw
  clear hb1 zq
  go_wp2_with fail
  refine (HST.out _).mono ?_
  have q1 := heap_alloc_new w1 (.cells #[.int .i64 0] 3)
  have hA1 := al w1 (.cells #[.int .i64 0] 3)
  have z1 : (w1.alloc (.cells #[.int .i64 0] 3)).heap.size = w1.heap.size + 1 := by simp
  generalize w1.alloc (.cells #[.int .i64 0] 3) = wb at q1 hA1 z1 ⊢
  have q2 := heap_alloc_new wb (.cells #[.int .i64 70] 29)
  have hA2 := al wb (.cells #[.int .i64 70] 29)
  have z2 : (wb.alloc (.cells #[.int .i64 70] 29)).heap.size = wb.heap.size + 1 := by simp
  generalize wb.alloc (.cells #[.int .i64 70] 29) = wc at q2 hA2 z2 ⊢
  rintro e w2 ⟨g0, g1, g2, g3, rfl, hst, hfr, hb2⟩
  rw [z1] at q2
  have Q1 := Lib.hid ((hb2.block _ (by omega)).trans ((hA2.block _ (by omega)).trans q1))
  have Q2 := Lib.hid ((hb2.block _ (by omega)).trans q2)
  have HB2 := Lib.hid (blw HB1.out (blw (blw hA1 hA2) hb2))
  have hsz : w1.heap.size + 2 ≤ w2.heap.size := by have := hb2.size; omega
  have HST2 := Lib.hid hst
  have HFR : Hid ((g0 ≠ w1.heap.size ∧ g1 ≠ w1.heap.size ∧ g2 ≠ w1.heap.size ∧ g3 ≠ w1.heap.size) ∧ (g0 ≠ w1.heap.size + 1 ∧ g1 ≠ w1.heap.size + 1 ∧ g2 ≠ w1.heap.size + 1 ∧ g3 ≠ w1.heap.size + 1)) := Lib.hid ⟨⟨by omega, by omega, by omega, by omega⟩, ⟨by omega, by omega, by omega, by omega⟩⟩
  have HLT := Lib.hid hst.lt
  clear hst hfr hb2 q1 q2 hA1 hA2 z1 z2 y0 y1 zw
  obtain ⟨B, hB⟩ : ∃ B, w.heap.size = B := ⟨_, rfl⟩
  obtain ⟨C, hC⟩ : ∃ C, w1.heap.size = C := ⟨_, rfl⟩
  rw [hC] at Q1 Q2 hsz HFR hws ⊢
  rw [hB] at hws ⊢
  go_wp2_with fail
  refine (wpIn_wide (n := 3)).1 (range_seqA (α := StepD) (gf := 60) (lb := #[.pointer (some ⟨g0, 0, none⟩), .pointer (some ⟨g2, 0, none⟩), .pointer (some ⟨g1, 0, none⟩), .pointer (some ⟨g3, 0, none⟩)]) rfl (fun args w => by simp [go_sem]) (fun pre x args X h => by obtain ⟨_, rfl⟩ := h; rfl)
    (HSQ.out g0 g1 g2 g3 w2) (Below.refl _ _) (fun pre x args X Y h => h)
    (fun pre X => Hid (StI X g0 g1 g2 g3 A m c a b (nN n d) d) ∧ Hid (X.heap[C]? = some (.cells #[.int .i64 (lstV pre)] 3 (0, 0)) ∧ X.heap[C + 1]? = some (.cells #[.int .i64 (fstE pre)] 29 (0, 0))) ∧ Hid (Below B w X) ∧ Hid (w2.heap.size ≤ X.heap.size))
    (fun _ _ _ => False)
    ?oi ?oix ?ok ?h0 (fun args => Obj.cells (match args[0]?.getD undef with | Value.agg xs => xs | _ => #[]) 28)
    (fun args g => { tmps := #[.slice A m c, .agg #[.int .i64 a, .int .i64 b], .int .i64 n, .int .i64 d, undef, .pointer (some ⟨B, 0, none⟩), undef, undef, .int .i64 0, .int .i64 0, .int .i64 0, .pointer (some ⟨C, 0, none⟩), .pointer (some ⟨C + 1, 0, none⟩), .pointer (some ⟨g, 0, none⟩), .slice A m c, .agg #[.int .i64 a, .int .i64 b], .int .i64 n, .int .i64 d, .int .i64 0, .int .i64 0, .bool false, undef, .slice A m c, .agg #[.int .i64 a, .int .i64 b], .int .i64 n, .int .i64 d, itV g0 g1 g2 g3, args[0]?.getD undef, undef, undef, undef, undef], defers := [] }) ?assign ?body ?done ?stop)
  case oi =>
    rintro pre X Y ⟨h1, h2, h3, h4⟩ hb
    exact ⟨Lib.hid (h1.out.stays HLT.out hb), Lib.hid ⟨(hb.block _ (by omega)).trans h2.out.1, (hb.block _ (by omega)).trans h2.out.2⟩, Lib.hid (h3.out.trans (hb.mono (by omega))), Lib.hid (Nat.le_trans h4.out hb.size)⟩
  case oix => exact fun cd pre X Y h _ => h
  case ok =>
    rintro pre X ⟨h1, h2, h3, h4⟩
    exact ⟨h1.out, HS.out.below (by rw [hB]; exact h3.out)⟩
  case h0 => exact ⟨HST2, Lib.hid ⟨Q1.out, Q2.out⟩, Lib.hid (by rw [← hB]; exact HB2.out), Lib.hid (Nat.le_refl _)⟩
  case assign =>
    rintro l2 pre x args X K ⟨_, rfl⟩ hK
    gi_wp2
    exact hK
  case body =>
    rintro l2 pre x args X g ⟨h1, h2, h3, h4⟩ ⟨⟨post, hpost⟩, rfl⟩ hg hle
    have k1 := h2.out.1; have k2 := h2.out.2
    have c1 := cell1 k1; have f1 := Dag.blk_frozen k1 0
    have c2 := cell1 k2; have f2 := Dag.blk_frozen k2 0
    have c3 : X.cell? ⟨g, 1, none⟩ = some (.int .i64 x.fr) := Dag.blk_cell hg 1
    have K1 := Lib.hid k1; have K2 := Lib.hid k2
    clear k1 k2 hg hpost h2
    gi_wp2
    obtain ⟨e1, e2, e3⟩ := two_set (B := B) (.int .i64 x.fr) (.int .i64 0) K1.out K2.out (by omega) (by omega) (by omega)
    refine ⟨((Above.refl _ X).setCell (p := ⟨C, 0, none⟩) (by show C < _; omega) _).setCell (p := ⟨C + 1, 0, none⟩) (by show C + 1 < _; omega) _, Lib.hid ((h1.out.set _ HFR.out.1).set _ HFR.out.2), Lib.hid ?_, Lib.hid (h3.out.trans e3), Lib.hid (Nat.le_trans h4.out e3.size)⟩
    rw [(lst_app pre x).1, (lst_app pre x).2]
    exact ⟨e1, e2⟩
  case done =>
    rintro D pre X hD hS ⟨h1, h2, h3, h4⟩ hdef
    subst hS
    have c1 := cell1 h2.out.1; have c2 := cell1 h2.out.2
    have HX := h3; have HSZ := h4; have HDF := Lib.hid hdef
    clear h1 h2 h4 hdef
    go_wp2_with fail
    go_quiet (fail)
    have HX2 := Lib.hid (HX.out.trans ((drN X nq).mono (by have := HSZ.out; omega)))
    have HDF2 : Hid ((X.drewN nq).heap[D]? = some (.deferred (some []))) := HDF
    generalize X.drewN nq = X2 at HX2 HDF2 ⊢
    clear c1 c2
    go_wp2_with fail
    refine leaves_marksB (base := B) [D] X2 ⟨List.nodup_cons.2 ⟨by simp, List.nodup_nil⟩, fun D' hD' => by obtain rfl := List.mem_singleton.1 hD'; exact HDF2.out⟩ (fun D' hD' => by obtain rfl := List.mem_singleton.1 hD'; omega) fun W' hB' hk hsz => ?_
    exact ⟨_, results_tmp2 rfl _ _ _, rfl, by first | (rw [hB]; exact HX2.out.trans hB') | exact HX2.out.trans hB'⟩
  case stop => exact fun D cd pre X _ h _ => h.elim
end Go.Proofs.Ytldmkbmkjdnaaaa.Ft

