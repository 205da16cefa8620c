/- Layer 10: what a request is; the step behind another one. -/
import Derived.Test.YtldmkbmkjdnaaaaFitPure
import Derived.Test.YtldmkbmkjdnaaaaStpF
namespace Go.Proofs.Ytldmkbmkjdnaaaa.Ft
open Go.RowKit Go.Shelf
open Stp
set_option linter.unusedVariables false
set_option maxRecDepth 100000

theorem req_no {l : List StepD} {a b n d r : Int} (h : reqE l a b n d = r) (k : ¬ (chkD l = true ∧ Clk.isT a = true ∧ Clk.isT b = true ∧ (1 ≤ n ∧ n ≤ 10000) ∧ Clk.isT d = true)) : r = 2 := by
  rw [← h]; unfold reqE; rw [if_neg k]
set_option maxHeartbeats 1600000 in
theorem fcheck_any (l : List StepD) (a b n d : Int) (A : Option Addr) (m c : Nat) (hm : l.length = m) (w : World) (h : Stp w A c l) :
    Calls Try.prog 41 #[.slice A m c, .agg #[.int .i64 a, .int .i64 b], .int .i64 n, .int .i64 d] w fun e w' => e = .returned (.int .i64 (reqE l a b n d)) ∧ Below w.heap.size w w' := by
  obtain ⟨r, hr⟩ : ∃ r, reqE l a b n d = r := ⟨_, rfl⟩
  rw [hr]
  have HC := Lib.hid fun W (hW : Below w.heap.size w W) => check_any l A m c hm W (h.below hW)
  have HIA := Lib.hid fun (W : World) => Clk.is_any a W
  have HIB := Lib.hid fun (W : World) => Clk.is_any b W
  have HID := Lib.hid fun (W : World) => Clk.is_any d W
  obtain ⟨x0, x1⟩ := new2 w (.int .i64 a) (.int .i64 b) 28
  rcases chkE_or l with ⟨hc, hp⟩ | ⟨hc, hp⟩
  case inr =>
    rw [hc] at HC
    obtain rfl := req_no hr (by simp [hp])
    clear h hr hc hp
    go_enter Try.func41, Try.ntmps41
    go_wp2_with fail
    refine (HC.out _ (al w _)).mono ?_
    rintro e w1 ⟨rfl, hb1⟩
    go_wp2
    go_ret
    exact ⟨rfl, blw (al w _) hb1⟩
  rw [hc] at HC
  have hcd := chkD_prof.2 hp
  clear h hc hp
  cases hi : Clk.isT a
  case false =>
    obtain rfl := req_no hr (by simp [hi])
    rw [hi] at HIA
    clear hr hi hcd
    go_enter Try.func41, Try.ntmps41
    go_wp2_with fail
    refine (HC.out _ (al w _)).mono ?_
    rintro e w1 ⟨rfl, hb1⟩
    have y0 := kp hb1 x0
    have y1 := kp hb1 x1
    have HB := Lib.hid (blw (al w _) hb1)
    clear hb1
    go_wp2_with fail
    refine (HIA.out _).mono ?_
    rintro e w2 ⟨rfl, rfl⟩
    go_wp2
    go_ret
    exact ⟨rfl, HB.out⟩
  rw [hi] at HIA
  cases hj : Clk.isT b
  case false =>
    obtain rfl := req_no hr (by simp [hj])
    rw [hj] at HIB
    clear hr hi hj hcd
    go_enter Try.func41, Try.ntmps41
    go_wp2_with fail
    refine (HC.out _ (al w _)).mono ?_
    rintro e w1 ⟨rfl, hb1⟩
    have y0 := kp hb1 x0
    have y1 := kp hb1 x1
    have HB := Lib.hid (blw (al w _) hb1)
    clear hb1
    go_wp2_with fail
    refine (HIA.out _).mono ?_
    rintro e w2 ⟨rfl, rfl⟩
    go_wp2_with fail
    refine (HIB.out _).mono ?_
    rintro e w2 ⟨rfl, rfl⟩
    go_wp2
    go_ret
    exact ⟨rfl, HB.out⟩
  rw [hj] at HIB
  by_cases hn1 : n < 1
  case pos =>
    obtain rfl := req_no hr (by omega)
    clear hr hi hj hcd
    go_enter Try.func41, Try.ntmps41
    go_wp2_with fail
    refine (HC.out _ (al w _)).mono ?_
    rintro e w1 ⟨rfl, hb1⟩
    have y0 := kp hb1 x0
    have y1 := kp hb1 x1
    have HB := Lib.hid (blw (al w _) hb1)
    clear hb1
    go_wp2_with fail
    refine (HIA.out _).mono ?_
    rintro e w2 ⟨rfl, rfl⟩
    go_wp2_with fail
    refine (HIB.out _).mono ?_
    rintro e w2 ⟨rfl, rfl⟩
    go_wp2
    go_ret
    exact ⟨rfl, HB.out⟩
  by_cases hn2 : 10000 < n
  case pos =>
    obtain rfl := req_no hr (by omega)
    clear hr hi hj hcd
    go_enter Try.func41, Try.ntmps41
    go_wp2_with fail
    refine (HC.out _ (al w _)).mono ?_
    rintro e w1 ⟨rfl, hb1⟩
    have y0 := kp hb1 x0
    have y1 := kp hb1 x1
    have HB := Lib.hid (blw (al w _) hb1)
    clear hb1
    go_wp2_with fail
    refine (HIA.out _).mono ?_
    rintro e w2 ⟨rfl, rfl⟩
    go_wp2_with fail
    refine (HIB.out _).mono ?_
    rintro e w2 ⟨rfl, rfl⟩
    go_wp2
    go_ret
    exact ⟨rfl, HB.out⟩
  cases hk : Clk.isT d
  case false =>
    obtain rfl := req_no hr (by simp [hk])
    rw [hk] at HID
    clear hr hi hj hk hcd
    go_enter Try.func41, Try.ntmps41
    go_wp2_with fail
    refine (HC.out _ (al w _)).mono ?_
    rintro e w1 ⟨rfl, hb1⟩
    have y0 := kp hb1 x0
    have y1 := kp hb1 x1
    have HB := Lib.hid (blw (al w _) hb1)
    clear hb1
    go_wp2_with fail
    refine (HIA.out _).mono ?_
    rintro e w2 ⟨rfl, rfl⟩
    go_wp2_with fail
    refine (HIB.out _).mono ?_
    rintro e w2 ⟨rfl, rfl⟩
    go_wp2_with fail
    refine (HID.out _).mono ?_
    rintro e w2 ⟨rfl, rfl⟩
    go_wp2
    go_ret
    exact ⟨rfl, HB.out⟩
  obtain rfl : r = 0 := by rw [← hr]; unfold reqE; rw [if_pos ⟨hcd, hi, hj, ⟨by omega, by omega⟩, hk⟩]
  rw [hk] at HID
  clear hr hi hj hk hcd
  go_enter Try.func41, Try.ntmps41
  go_wp2_with fail
  refine (HC.out _ (al w _)).mono ?_
  rintro e w1 ⟨rfl, hb1⟩
  have y0 := kp hb1 x0
  have y1 := kp hb1 x1
  have HB := Lib.hid (blw (al w _) hb1)
  clear hb1
  go_wp2_with fail
  refine (HIA.out _).mono ?_
  rintro e w2 ⟨rfl, rfl⟩
  go_wp2_with fail
  refine (HIB.out _).mono ?_
  rintro e w2 ⟨rfl, rfl⟩
  go_wp2_with fail
  refine (HID.out _).mono ?_
  rintro e w2 ⟨rfl, rfl⟩
  go_wp2
  go_ret
  exact ⟨rfl, HB.out⟩

theorem size_stepI : (Try.prog.info? 52).map (·.size) = some 2 := by kernel_rfl
/-- the step behind step i, or one behind all times -/
theorem behind_any (l : List StepD) (k : Nat) (A : Option Addr) (m c : Nat) (hm : l.length = m) (hk : k < m) (w : World) (h : Stp w A c l) :
    Calls Try.prog 61 #[.slice A m c, .int .i64 k] w fun e w' => e = .returned (.agg #[.int .i64 (nxA (l.drop (k + 1))), .int .i64 (nxF (l.drop (k + 1)))]) ∧ Below w.heap.size w w' := by
  have hml : m ≤ 9223372036854775807 := by rw [← hm]; exact h.lenI
  obtain ⟨q, hq⟩ : ∃ q, k + 1 = q := ⟨_, rfl⟩
  have w1 : IntKind.i64.wrap ((k : Int) + 1) = (q : Int) := by rw [IntWalk.i64_in _ (by omega)]; omega
  rw [hq]
  by_cases hl : q = m
  · rw [List.drop_eq_nil_of_le (by omega)]
    have hb : ((q : Int) == (m : Int)) = true := by rw [beq_iff_eq]; omega
    clear h hm hl hq
    go_enter Try.func61, Try.ntmps61
    go_wp2
    refine bodyPost_ret (results_cell_row rfl _ _ w.heap.size 52 #[.int .i64 1099511627776, .int .i64 (-1)] (0, 0) _ rfl (heap_alloc_new w _) Try.underlying52 rfl size_stepI) rfl ?_
    exact ⟨rfl, al w _⟩
  · obtain ⟨b, off, s, eA, hs, c0, c1⟩ := h.lt (k := q) (by omega)
    have hd : l.drop q = s :: l.drop (q + 1) := by rw [List.drop_eq_getElem_cons (by omega), (List.getElem?_eq_some_iff.1 hs).2]
    have hb : ((q : Int) == (m : Int)) = false := by rw [beq_eq_false_iff_ne]; omega
    have hlt : q < m := by omega
    rw [hd]
    subst eA
    have d0 := kp (al w (.cells #[.int .i64 0, .int .i64 0] 52)) c0
    have d1 := kp (al w (.cells #[.int .i64 0, .int .i64 0] 52)) c1
    obtain ⟨e0, e1⟩ := new2 w (.int .i64 0) (.int .i64 0) 52
    have hkq : ((k : Int) + 1) = (q : Int) := by omega
    clear h hm hs hd hl hq c0 c1
    show Calls _ _ _ _ fun e w' => e = .returned (.agg #[.int .i64 s.at_, .int .i64 s.fr]) ∧ _
    go_enter Try.func61, Try.ntmps61
    go_wp2
    refine bodyPost_ret (results_cell_row rfl _ _ w.heap.size 52 #[.int .i64 s.at_, .int .i64 s.fr] (0, 0) _ rfl (heap_alloc_new w _) Try.underlying52 rfl size_stepI) rfl ?_
    exact ⟨rfl, al w _⟩
/-- the iterator: l, nodes, w, long in blocks of its own -/
theorem new1 (w : World) (x : Value) (t : TypeId) : (w.alloc (.cells #[x] t)).heap[w.heap.size]? = some (.cells #[x] t (0, 0)) := heap_alloc_new w _
structure StI (W : World) (g0 g1 g2 g3 : Nat) (A : Option Addr) (m c : Nat) (a b n d : Int) : Prop where
  l : W.cell? ⟨g0, 0, none⟩ = some (.slice A m c)
  w0 : W.cell? ⟨g1, 0, none⟩ = some (.int .i64 a)
  w1 : W.cell? ⟨g1, 1, none⟩ = some (.int .i64 b)
  n : W.cell? ⟨g2, 0, none⟩ = some (.int .i64 n)
  d : W.cell? ⟨g3, 0, none⟩ = some (.int .i64 d)
theorem StI.below {W W' : World} {g0 g1 g2 g3 : Nat} {A : Option Addr} {m c : Nat} {a b n d : Int} (h : StI W g0 g1 g2 g3 A m c a b n d) (hb : Below W.heap.size W W') : StI W' g0 g1 g2 g3 A m c a b n d :=
  ⟨kp hb h.l, kp hb h.w0, kp hb h.w1, kp hb h.n, kp hb h.d⟩
abbrev itV (g0 g1 g2 g3 : Nat) : Value := .func (.func 60) #[] #[.pointer (some ⟨g0, 0, none⟩), .pointer (some ⟨g2, 0, none⟩), .pointer (some ⟨g1, 0, none⟩), .pointer (some ⟨g3, 0, none⟩)]
theorem four_new (w : World) (A : Option Addr) (m c : Nat) (a b n d : Int) (t0 t1 t2 t3 : TypeId) :
    StI ((((w.alloc (.cells #[.slice A m c] t0)).alloc (.cells #[.int .i64 a, .int .i64 b] t1)).alloc (.cells #[.int .i64 n] t2)).alloc (.cells #[.int .i64 d] t3)) w.heap.size (w.heap.size + 1) (w.heap.size + 1 + 1) (w.heap.size + 1 + 1 + 1) A m c a b n d ∧
      Below w.heap.size w ((((w.alloc (.cells #[.slice A m c] t0)).alloc (.cells #[.int .i64 a, .int .i64 b] t1)).alloc (.cells #[.int .i64 n] t2)).alloc (.cells #[.int .i64 d] t3)) := by
  have q0 := Dag.blk_cell (new1 w (.slice A m c) t0) 0
  have hb0 := al w (.cells #[.slice A m c] t0)
  have z0 : (w.alloc (.cells #[.slice A m c] t0)).heap.size = w.heap.size + 1 := by simp
  generalize w.alloc (.cells #[.slice A m c] t0) = w1 at q0 hb0 z0 ⊢
  obtain ⟨q1, q2⟩ := new2 w1 (.int .i64 a) (.int .i64 b) t1
  have hb1 := al w1 (.cells #[.int .i64 a, .int .i64 b] t1)
  have z1 : (w1.alloc (.cells #[.int .i64 a, .int .i64 b] t1)).heap.size = w1.heap.size + 1 := by simp
  generalize w1.alloc (.cells #[.int .i64 a, .int .i64 b] t1) = w2 at q1 q2 hb1 z1 ⊢
  have q3 := Dag.blk_cell (new1 w2 (.int .i64 n) t2) 0
  have hb2 := al w2 (.cells #[.int .i64 n] t2)
  have z2 : (w2.alloc (.cells #[.int .i64 n] t2)).heap.size = w2.heap.size + 1 := by simp
  generalize w2.alloc (.cells #[.int .i64 n] t2) = w3 at q3 hb2 z2 ⊢
  have q4 := Dag.blk_cell (new1 w3 (.int .i64 d) t3) 0
  have hb3 := al w3 (.cells #[.int .i64 d] t3)
  generalize w3.alloc (.cells #[.int .i64 d] t3) = w4 at q4 hb3 ⊢
  rw [z2, z1, z0] at q4
  rw [z1, z0] at q3
  rw [z0] at q1 q2
  simp only [List.getElem?_toArray, List.getElem?_cons_zero] at q0 q3 q4
  exact ⟨⟨kp (blw hb1 (blw hb2 hb3)) q0, kp (blw hb2 hb3) q1, kp (blw hb2 hb3) q2, kp hb3 q3, q4⟩, blw hb0 (blw hb1 (blw hb2 hb3))⟩
theorem starts_any (a b n d : Int) (A : Option Addr) (m c : Nat) (w : World) :
    Calls Try.prog 43 #[.slice A m c, .agg #[.int .i64 a, .int .i64 b], .int .i64 n, .int .i64 d] w fun e w' => ∃ g0 g1 g2 g3, e = .returned (itV g0 g1 g2 g3) ∧ StI w' g0 g1 g2 g3 A m c a b (nN n d) d ∧ (w.heap.size ≤ g0 ∧ w.heap.size ≤ g1 ∧ w.heap.size ≤ g2 ∧ w.heap.size ≤ g3) ∧ Below w.heap.size w w' := by
  unfold nN
  by_cases hd : d = 0
  · subst hd
    rw [if_pos rfl]
    go_enter Try.func43, Try.ntmps43
    go_wp2
    go_ret
    obtain ⟨h1, h2⟩ := four_new w A m c a b 0 0 22 28 3 3
    exact ⟨_, _, _, _, rfl, h1, ⟨by omega, by omega, by omega, by omega⟩, h2⟩
  · rw [if_neg hd]
    have hb : (d == 0) = false := by rw [beq_eq_false_iff_ne]; exact hd
    go_enter Try.func43, Try.ntmps43
    go_wp2
    go_ret
    obtain ⟨h1, h2⟩ := four_new w A m c a b n d 22 28 3 3
    exact ⟨_, _, _, _, rfl, h1, ⟨by omega, by omega, by omega, by omega⟩, h2⟩
end Go.Proofs.Ytldmkbmkjdnaaaa.Ft

