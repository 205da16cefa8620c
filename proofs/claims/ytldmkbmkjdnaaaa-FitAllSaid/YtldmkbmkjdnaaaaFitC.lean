/- Layer 10: First, Last. -/
import Derived.Test.YtldmkbmkjdnaaaaFitB
namespace Go.Proofs.Ytldmkbmkjdnaaaa.Ft
open Go.RowKit Go.Shelf
open Stp
open Dag (wide_call)
set_option linter.unusedVariables false
set_option maxRecDepth 100000
attribute [local go_sem] Oper.semAt_some

theorem results_2c {fn : Func} {t u : Tmp} (h : fn.results = #[.cell t 3, .cell u 29]) (tmps : Array Value) {w : World} {b0 b1 : Nat} {x0 x1 : Value}
    (h0 : tmps.getD t undef = .pointer (some ⟨b0, 0, none⟩)) (h1 : tmps.getD u undef = .pointer (some ⟨b1, 0, none⟩))
    (c0 : w.cell? ⟨b0, 0, none⟩ = some x0) (c1 : w.cell? ⟨b1, 0, none⟩ = some x1) :
    (results fn tmps).run Try.prog w = .ok (.tuple #[x0, x1]) w := by
  have g0 : tmps[t]?.getD undef = .pointer (some ⟨b0, 0, none⟩) := by simpa using h0
  have g1 : tmps[u]?.getD undef = .pointer (some ⟨b1, 0, none⟩) := by simpa using h1
  simp [results, h, g0, g1, asAddr, go_sem, c0, c1]
theorem cell1 {W : World} {b : Nat} {x : Value} {t : TypeId} (h : W.heap[b]? = some (.cells #[x] t (0, 0))) : W.cell? ⟨b, 0, none⟩ = some x := by
  have := Dag.blk_cell h 0
  simpa using this
/-- two boxes, written -/
theorem two_set {W : World} {b0 b1 B : Nat} {y0 y1 : Value} (x0 x1 : Value) {t0 t1 : TypeId} (h0 : W.heap[b0]? = some (.cells #[y0] t0 (0, 0))) (h1 : W.heap[b1]? = some (.cells #[y1] t1 (0, 0))) (d01 : b0 ≠ b1) (g0 : B ≤ b0) (g1 : B ≤ b1) :
    ((W.setCell ⟨b0, 0, none⟩ x0).setCell ⟨b1, 0, none⟩ x1).heap[b0]? = some (.cells #[x0] t0 (0, 0)) ∧ ((W.setCell ⟨b0, 0, none⟩ x0).setCell ⟨b1, 0, none⟩ x1).heap[b1]? = some (.cells #[x1] t1 (0, 0)) ∧
      Below B W ((W.setCell ⟨b0, 0, none⟩ x0).setCell ⟨b1, 0, none⟩ x1) := by
  refine ⟨(Dag.blk_other d01).trans (Dag.blk_set h0 0 _), Dag.blk_set ((Dag.blk_other (Ne.symm d01)).trans h1) 0 _, ((Below.refl B W).setCell (p := ⟨b0, 0, none⟩) g0 _).setCell (p := ⟨b1, 0, none⟩) g1 _⟩

set_option maxHeartbeats 3200000 in
theorem first0_any (l : List StepD) (a b n d : Int) (A : Option Addr) (m c : Nat) (hm : l.length = m) (ha : 0 ≤ a ∧ a ≤ 1099511627775) (hb : 0 ≤ b ∧ b ≤ 1099511627775) (hd : 0 ≤ d ∧ d ≤ 1099511627775) (hl : ∀ s ∈ l, 0 ≤ s.at_ ∧ s.at_ ≤ 1099511627775)
    (R : List StepD) (hR : fitL l n d a b = R) (w : World) (h : Stp w A c l) :
    Calls Try.prog 42 #[.slice A m c, .agg #[.int .i64 a, .int .i64 b], .int .i64 n, .int .i64 d] w fun e w' => e = .returned (.tuple #[.int .i64 (fstV R), .int .i64 (fstE R)]) ∧ Below w.heap.size w w' := by
  have HST := Lib.hid fun W => starts_any a b n d A m c W
  have HSQ := Lib.hid fun g0 g1 g2 g3 W => st1_seqB 2 l A m c hm a b (nN n d) d ha hb hd hl g0 g1 g2 g3 R hR W
  have HS := Lib.hid h
  clear h hm hl hR
  refine (callsIn_wide (n := 3)).1 (callsIn_of_wp_marks Try.func42 rfl trivial ?_ rfl)
  simp only [Try.ntmps42, List.size_toArray, List.length_cons, List.length_nil, Nat.reduceAdd, Nat.reduceSub, Array.replicate_succ, Array.replicate_zero, List.push_toArray, List.append_toArray, List.nil_append, List.cons_append]
  refine wpIn_wide.2 ?_
  have q0 := heap_alloc_new w (.cells #[.int .i64 a, .int .i64 b] 28)
  have hA0 := al w (.cells #[.int .i64 a, .int .i64 b] 28)
  have z0 : (w.alloc (.cells #[.int .i64 a, .int .i64 b] 28)).heap.size = w.heap.size + 1 := by simp
  go_wp2_with fail
  refine (HST.out _).mono ?_
  generalize w.alloc (.cells #[.int .i64 a, .int .i64 b] 28) = wa at q0 hA0 z0 ⊢
  have q1 := heap_alloc_new wa (.cells #[.int .i64 0] 3)
  have hA1 := al wa (.cells #[.int .i64 0] 3)
  have z1 : (wa.alloc (.cells #[.int .i64 0] 3)).heap.size = wa.heap.size + 1 := by simp
  generalize wa.alloc (.cells #[.int .i64 0] 3) = wb at q1 hA1 z1 ⊢
  have q2 := heap_alloc_new wb (.cells #[.int .i64 0] 29)
  have hA2 := al wb (.cells #[.int .i64 0] 29)
  have z2 : (wb.alloc (.cells #[.int .i64 0] 29)).heap.size = wb.heap.size + 1 := by simp
  generalize wb.alloc (.cells #[.int .i64 0] 29) = wc at q2 hA2 z2 ⊢
  rintro e w1 ⟨g0, g1, g2, g3, rfl, hst, hfr, hb1⟩
  rw [z0] at q1
  rw [z1, z0] at q2
  have Q1 := Lib.hid ((hb1.block _ (by omega)).trans ((hA2.block _ (by omega)).trans q1))
  have Q2 := Lib.hid ((hb1.block _ (by omega)).trans q2)
  have HB1 := Lib.hid (blw (blw (blw hA0 hA1) hA2) hb1)
  have hsz : w.heap.size + 3 ≤ w1.heap.size := by have := hb1.size; omega
  have HST1 := Lib.hid hst
  clear hst hfr hb1 q0 q1 q2 hA0 hA1 hA2 z0 z1 z2
  obtain ⟨B, hB⟩ : ∃ B, w.heap.size = B := ⟨_, rfl⟩
  rw [hB] at Q1 Q2 hsz ⊢
  go_wp2_with fail
  refine (wpIn_wide (n := 3)).1 (range_seqA (α := StepD) (gf := 60) (lb := #[.pointer (some ⟨g0, 0, none⟩), .pointer (some ⟨g2, 0, none⟩), .pointer (some ⟨g1, 0, none⟩), .pointer (some ⟨g3, 0, none⟩)]) rfl (fun args w => by simp [go_sem]) (fun pre x args X h => by obtain ⟨_, rfl⟩ := h; rfl)
    (HSQ.out g0 g1 g2 g3 w1) (Below.refl _ _) (fun pre x args X Y h => h)
    (fun pre X => Hid (pre = []) ∧ Hid (Below w1.heap.size w1 X))
    (fun cd pre X => Hid (cd = .ret) ∧ Hid (∃ x post, R = x :: post ∧ X.heap[B + 1]? = some (.cells #[.int .i64 x.at_] 3 (0, 0)) ∧ X.heap[B + 1 + 1]? = some (.cells #[.int .i64 0] 29 (0, 0))) ∧ Hid (Below B w X))
    ?oi ?oix ?ok ?h0 (fun args => Obj.cells (match args[0]?.getD undef with | Value.agg xs => xs | _ => #[]) 28)
    (fun args g => { tmps := #[.slice A m c, .agg #[.int .i64 a, .int .i64 b], .int .i64 n, .int .i64 d, undef, .pointer (some ⟨B, 0, none⟩), undef, undef, .pointer (some ⟨B + 1, 0, none⟩), .pointer (some ⟨B + 1 + 1, 0, none⟩), .pointer (some ⟨g, 0, none⟩), .slice A m c, .agg #[.int .i64 a, .int .i64 b], .int .i64 n, .int .i64 d, itV g0 g1 g2 g3, args[0]?.getD undef, undef, undef], defers := [] }) ?assign ?body ?done ?stop)
  case oi =>
    rintro pre X Y ⟨h1, h2⟩ hb
    exact ⟨h1, Lib.hid (h2.out.trans hb)⟩
  case oix =>
    rintro cd pre X Y ⟨h1, h2, h3⟩ hb
    obtain ⟨x, post, e1, e2, e3⟩ := h2.out
    exact ⟨h1, Lib.hid ⟨x, post, e1, (hb.block _ (by omega)).trans e2, (hb.block _ (by omega)).trans e3⟩, Lib.hid (h3.out.trans (hb.mono (by omega)))⟩
  case ok =>
    rintro pre X ⟨h1, h2⟩
    exact ⟨HST1.out.below h2.out, (HS.out.below HB1.out).below h2.out⟩
  case h0 => exact ⟨Lib.hid rfl, Lib.hid (Below.refl _ _)⟩
  case assign =>
    rintro l2 pre x args X K ⟨_, rfl⟩ hK
    gi_wp2
    exact hK
  case body =>
    rintro l2 pre x args X g ⟨h1, h2⟩ ⟨⟨post, hpost⟩, rfl⟩ hg hle
    rw [h1.out] at hpost ⊢
    have k1 := (h2.out.block _ (by omega)).trans Q1.out
    have k2 := (h2.out.block _ (by omega)).trans Q2.out
    have c1 := cell1 k1; have f1 := Dag.blk_frozen k1 0
    have c2 := cell1 k2; have f2 := Dag.blk_frozen k2 0
    have c3 : X.cell? ⟨g, 0, none⟩ = some (.int .i64 x.at_) := Dag.blk_cell hg 0
    have HX : Hid (Below B w X) := Lib.hid (by rw [← hB]; exact HB1.out.trans (h2.out.mono (by omega)))
    have K1 := Lib.hid k1; have K2 := Lib.hid k2; have HP := Lib.hid hpost
    clear k1 k2 hg hpost h1 h2
    gi_wp2
    obtain ⟨e1, e2, e3⟩ := two_set (B := B) (.int .i64 x.at_) (.int .i64 0) K1.out K2.out (by omega) (by omega) (by omega)
    exact ⟨((Above.refl _ X).setCell (p := ⟨B + 1, 0, none⟩) (by show B + 1 < _; omega) _).setCell (p := ⟨B + 1 + 1, 0, none⟩) (by show B + 1 + 1 < _; omega) _, Lib.hid rfl, Lib.hid ⟨x, post, HP.out, e1, e2⟩, Lib.hid (HX.out.trans e3)⟩
  case done =>
    rintro D pre X hD hS ⟨h1, h2⟩ hdef
    have hR0 : R = [] := hS.symm.trans h1.out
    have k1 := (h2.out.block _ (by omega)).trans Q1.out
    have k2 := (h2.out.block _ (by omega)).trans Q2.out
    have c1 := cell1 k1; have f1 := Dag.blk_frozen k1 0
    have c2 := cell1 k2; have f2 := Dag.blk_frozen k2 0
    have HX : Hid (Below B w X) := Lib.hid (by rw [← hB]; exact HB1.out.trans (h2.out.mono (by omega)))
    have K1 := Lib.hid k1; have K2 := Lib.hid k2; have HDF := Lib.hid hdef
    subst hR0
    clear k1 k2 h1 h2 hdef hS
    go_wp2_with fail
    obtain ⟨e1, e2, e3⟩ := two_set (B := B) (.int .i64 0) (.int .i64 70) K1.out K2.out (by omega) (by omega) (by omega)
    refine leaves_marksB (base := B) [D] _ ⟨List.nodup_cons.2 ⟨by simp, List.nodup_nil⟩, fun D' hD' => by obtain rfl := List.mem_singleton.1 hD'; exact (Dag.blk_other (by omega)).trans ((Dag.blk_other (by omega)).trans HDF.out)⟩ (fun D' hD' => by obtain rfl := List.mem_singleton.1 hD'; omega) fun W' hB' hk hsz => ?_
    exact ⟨_, results_2c rfl _ rfl rfl (cell1 ((hk _ (fun D' hD' => by obtain rfl := List.mem_singleton.1 hD'; omega)).trans e1)) (cell1 ((hk _ (fun D' hD' => by obtain rfl := List.mem_singleton.1 hD'; omega)).trans e2)), rfl, by rw [hB]; exact HX.out.trans (e3.trans hB')⟩
  case stop =>
    rintro D cd pre X hD ⟨h1, h2, h3⟩ hdef
    obtain rfl := h1.out
    obtain ⟨x, post, e0, e1, e2⟩ := h2.out
    have HDF := Lib.hid hdef
    subst e0
    clear hdef h2
    gi_wp2_with fail
    refine leaves_marksB (base := B) [D] _ ⟨List.nodup_cons.2 ⟨by simp, List.nodup_nil⟩, fun D' hD' => by obtain rfl := List.mem_singleton.1 hD'; exact HDF.out⟩ (fun D' hD' => by obtain rfl := List.mem_singleton.1 hD'; omega) fun W' hB' hk hsz => ?_
    exact ⟨_, results_2c rfl _ rfl rfl (cell1 ((hk _ (fun D' hD' => by obtain rfl := List.mem_singleton.1 hD'; omega)).trans e1)) (cell1 ((hk _ (fun D' hD' => by obtain rfl := List.mem_singleton.1 hD'; omega)).trans e2)), rfl, by first | (rw [hB]; exact h3.out.trans hB') | exact h3.out.trans hB'⟩

theorem req_bds {l : List StepD} {a b n d : Int} (h : reqE l a b n d = 0) : Prof l ∧ (0 ≤ a ∧ a ≤ 1099511627775) ∧ (0 ≤ b ∧ b ≤ 1099511627775) ∧ (1 ≤ n ∧ n ≤ 10000) ∧ (0 ≤ d ∧ d ≤ 1099511627775) ∧ ∀ s ∈ l, 0 ≤ s.at_ ∧ s.at_ ≤ 1099511627775 := by
  have k := req_yes.1 h
  exact ⟨k.prof, k.ha, k.hb, k.hn, k.hd, fun s hs => (k.prof.ok s hs).1⟩
set_option maxHeartbeats 1600000 in
theorem first_any (l : List StepD) (a b n d : Int) (A : Option Addr) (m c : Nat) (hm : l.length = m) (w : World) (h : Stp w A c l) :
    Calls Try.prog 17 #[.slice A m c, .agg #[.int .i64 a, .int .i64 b], .int .i64 n, .int .i64 d] w fun e w' => e = .returned (.tuple #[.int .i64 (firstV l a b n d), .int .i64 (firstE l a b n d)]) ∧ Below w.heap.size w w' := by
  have HC := Lib.hid fun W (hW : Below w.heap.size w W) => fcheck_any l a b n d A m c hm W (h.below hW)
  obtain ⟨x0, x1⟩ := new2 w (.int .i64 a) (.int .i64 b) 28
  unfold firstV firstE
  rcases req_or l a b n d with hr | hr
  · obtain ⟨hp, ha, hb, hn, hd, hl⟩ := req_bds hr
    have HF := Lib.hid fun W (hW : Below w.heap.size w W) => first0_any l a b n d A m c hm ha hb hd hl _ rfl W (h.below hW)
    rw [hr] at HC ⊢
    rw [if_pos rfl, if_pos rfl]
    obtain ⟨u, hu⟩ : ∃ u, fstV (fitL l n d a b) = u := ⟨_, rfl⟩
    obtain ⟨v, hv⟩ : ∃ v, fstE (fitL l n d a b) = v := ⟨_, rfl⟩
    rw [hu, hv] at HF ⊢
    clear h hm hr hp hl hu hv
    go_enter Try.func17, Try.ntmps17
    go_wp2_with fail
    refine (HC.out _ (al w _)).mono ?_
    rintro e w1 ⟨rfl, hb1⟩
    have HB1 := Lib.hid (blw (al w _) hb1)
    have y0 := kp hb1 x0; have y1 := kp hb1 x1
    have z := (hb1.block _ (by simp)).trans (heap_alloc_new w (.cells #[.int .i64 a, .int .i64 b] 28))
    clear hb1
    go_wp2_with fail
    refine (HF.out _ HB1.out).mono ?_
    rintro e w2 ⟨rfl, hb2⟩
    go_wp2
    go_ret2
    exact ⟨rfl, blw HB1.out hb2⟩
  · rw [hr] at HC ⊢
    rw [if_neg (by decide), if_neg (by decide)]
    clear h hm hr
    go_enter Try.func17, Try.ntmps17
    go_wp2_with fail
    refine (HC.out _ (al w _)).mono ?_
    rintro e w1 ⟨rfl, hb1⟩
    have HB1 := Lib.hid (blw (al w _) hb1)
    clear hb1
    go_wp2
    go_ret2
    exact ⟨rfl, HB1.out⟩
end Go.Proofs.Ytldmkbmkjdnaaaa.Ft

