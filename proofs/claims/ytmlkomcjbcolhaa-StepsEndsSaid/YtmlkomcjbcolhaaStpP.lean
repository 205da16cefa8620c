/- Layer 9: Area: from the last one on. -/
import Derived.Test.YtmlkomcjbcolhaaStpE
import Derived.Test.YtmlkomcjbcolhaaStpSeq
namespace Go.Proofs.Ytmlkomcjbcolhaa.Stp
open Go.RowKit Go.Shelf
set_option linter.unusedVariables false
set_option maxRecDepth 100000
attribute [local go_sem] Oper.semAt_some

theorem backward_any (A : Option Addr) (n c : Nat) (w : World) : Calls Try.prog 40 #[.slice A n c] w fun e w' => e = .returned (.func (.func 52) #[] #[.pointer (some ⟨w.heap.size, 0, none⟩)]) ∧ w' = w.alloc (.cells #[.slice A n c] 22) := by
  go_enter Try.func40, Try.ntmps40
  go_wp2
  go_ret
  exact ⟨rfl, rfl⟩
set_option maxHeartbeats 1600000 in
theorem bw1_seqK (m : Nat) (xs : List StepD) (n : Nat) (hn : xs.length = n) (hb : n ≤ 20000) (B : Nat) (A : Option Addr) (c : Nat) :
    SeqK (α := StepD) Try.prog m 52 #[.pointer (some ⟨B, 0, none⟩)] (fun s => s = xs.reverse) (fun pre x args W => (∃ post, xs.reverse = pre ++ x :: post) ∧ ∃ i : Int, args = #[.int .i64 i, .agg #[.int .i64 x.at_, .int .i64 x.fr]])
      (fun W => W.cell? ⟨B, 0, none⟩ = some (.slice A n c) ∧ Stp W A c xs) := by
  intro l J Jx W hK hY h0
  obtain ⟨cB, hI⟩ := hK _ _ h0
  have HK := Lib.hid hK; have HY := Lib.hid hY; have H0 := Lib.hid h0; have HN := Lib.hid hn
  clear hK hY h0 hn
  have hbi : (n : Int) ≤ 20000 := by omega
  refine callsIn_of_wp Try.func52 rfl trivial ?_ rfl
  simp only [Try.ntmps52, List.size_toArray, List.length_cons, List.length_nil, Nat.reduceAdd, Nat.reduceSub, Array.replicate_succ, Array.replicate_zero, List.push_toArray, List.append_toArray, List.nil_append, List.cons_append]
  gi_wp2
  clear cB hI
  gi_loopw [3] (fun i wr => ∃ (k : Nat) (p : Int), k ≤ n ∧ i = .int .i64 p ∧ Hid (p = (k : Int) - 1) ∧ Hid (J (xs.reverse.take (n - k)) wr)) (fun i _ => (intOf i + 1).toNat)
  case atStart => exact ⟨n, _, Nat.le_refl _, rfl, Lib.hid rfl, Lib.hid (by rw [Nat.sub_self, List.take_zero]; exact H0.out)⟩
  case round =>
    obtain ⟨k, p, hk, rfl, HP, HJ⟩ := hrel
    obtain ⟨cB, hI⟩ := HK.out _ _ HJ.out
    by_cases h0 : k = 0
    · have hp : p < 0 := by have := HP.out; omega
      subst h0
      gi_wp2
      go_end0
      exact ⟨⟨_, rfl⟩, Or.inl ⟨_, rfl, by have := HJ.out; rwa [Nat.sub_zero, List.take_of_length_le (by rw [List.length_reverse, HN.out]; exact Nat.le_refl _)] at this⟩⟩
    · obtain ⟨q, rfl⟩ : ∃ q, k = q + 1 := ⟨k - 1, by omega⟩
      obtain rfl : p = (q : Int) := by have := HP.out; omega
      have hq : q < xs.length := by rw [HN.out]; omega
      obtain ⟨b, off, x, eA, hx, c0, c1⟩ := hI.lt hq
      have hxr : xs.reverse[n - (q + 1)]? = some x := by
        rw [List.getElem?_reverse (by rw [HN.out]; omega), ← hx, HN.out]
        congr 1; omega
      have htk : xs.reverse.take (n - q) = xs.reverse.take (n - (q + 1)) ++ [x] := by
        rw [show n - q = n - (q + 1) + 1 from by omega, List.take_add_one, hxr, Option.toList_some]
      have HTK := Lib.hid htk
      have hsp : xs.reverse = xs.reverse.take (n - (q + 1)) ++ x :: xs.reverse.drop (n - (q + 1) + 1) := by
        have h1 := List.take_append_drop (n - (q + 1)) xs.reverse
        rw [List.drop_eq_getElem_cons (List.getElem?_eq_some_iff.1 hxr).1, (List.getElem?_eq_some_iff.1 hxr).2] at h1
        exact h1.symm
      subst eA
      have hyl := HY.out (xs.reverse.take (n - (q + 1))) x #[.int .i64 (q : Int), .agg #[.int .i64 x.at_, .int .i64 x.fr]] wr HJ.out ⟨⟨_, hsp⟩, _, rfl⟩
      clear hxr htk hsp hI hx
      obtain ⟨fn, tmps, assign, body, hy, hR⟩ := hyl
      gi_wp2
      refine ⟨(fun h => by cases h), hR.mono ?_⟩
      rintro e W3 (⟨rfl, hJ3⟩ | ⟨rfl, hJx3⟩)
      · have HJ3 := Lib.hid hJ3
        clear hJ3 hR hy
        gi_wp2
        go_roundw
        case rel => exact ⟨q, _, by omega, rfl, Lib.hid (by omega), Lib.hid (by rw [HTK.out]; exact HJ3.out)⟩
        case measure => simp [intOf]
      · have HJ3 := Lib.hid hJx3
        clear hJx3 hR hy
        gi_wp2
        refine bodyPost_ret (results_none rfl _ _ _) rfl ?_
        exact ⟨⟨_, rfl⟩, Or.inr ⟨_, HJ3.out⟩⟩

/-! the sum, from the last one on -/
def mxV (x a : Int) : Int := if x < a then a else x
def arS (a : Int) : Int × Int → List StepD → Int × Int
  | p, [] => p
  | p, x :: r => arS a (p.1 + x.fr * (p.2 - mxV x.at_ a), x.at_) r
theorem arS_app (a : Int) : ∀ (pre : List StepD) (p : Int × Int) (x : StepD), arS a p (pre ++ [x]) = ((arS a p pre).1 + x.fr * ((arS a p pre).2 - mxV x.at_ a), x.at_)
  | [], p, x => rfl
  | y :: pre, p, x => arS_app a pre _ x
theorem mul_bd {x y : Int} (hx : 0 ≤ x ∧ x ≤ 10000) (hy : -1099511627775 ≤ y ∧ y ≤ 1099511627775) : -10995116277750000 ≤ x * y ∧ x * y ≤ 10995116277750000 := by
  have h1 : x * y ≤ x * 1099511627775 := Int.mul_le_mul_of_nonneg_left hy.2 hx.1
  have h2 : x * (-1099511627775) ≤ x * y := Int.mul_le_mul_of_nonneg_left hy.1 hx.1
  omega
def InP (l : List StepD) : Prop := ∀ x ∈ l, (0 ≤ x.at_ ∧ x.at_ ≤ 1099511627775) ∧ 0 ≤ x.fr ∧ x.fr ≤ 10000
theorem mxV_bd {x a : Int} (hx : 0 ≤ x ∧ x ≤ 1099511627775) (ha : 0 ≤ a ∧ a ≤ 1099511627775) : 0 ≤ mxV x a ∧ mxV x a ≤ 1099511627775 := by unfold mxV; split <;> omega
theorem arS_bd {a : Int} (ha : 0 ≤ a ∧ a ≤ 1099511627775) : ∀ (pre : List StepD) (p : Int × Int) (k : Int), InP pre → (0 ≤ p.2 ∧ p.2 ≤ 1099511627775) → (-(10995116277750000 * k) ≤ p.1 ∧ p.1 ≤ 10995116277750000 * k) →
    (0 ≤ (arS a p pre).2 ∧ (arS a p pre).2 ≤ 1099511627775) ∧ -(10995116277750000 * (k + pre.length)) ≤ (arS a p pre).1 ∧ (arS a p pre).1 ≤ 10995116277750000 * (k + pre.length)
  | [], p, k, _, h2, h1 => ⟨h2, by simpa [arS] using h1⟩
  | x :: pre, p, k, hP, h2, h1 => by
    have hx := hP x (by simp)
    have hm := mxV_bd hx.1 ha
    have hmul := mul_bd hx.2 (y := p.2 - mxV x.at_ a) (by omega)
    have := arS_bd ha pre (p.1 + x.fr * (p.2 - mxV x.at_ a), x.at_) (k + 1) (fun y hy => hP y (by simp [hy])) hx.1 (by show _ ≤ p.1 + x.fr * (p.2 - mxV x.at_ a) ∧ p.1 + x.fr * (p.2 - mxV x.at_ a) ≤ _; omega)
    show (0 ≤ (arS a (p.1 + x.fr * (p.2 - mxV x.at_ a), x.at_) pre).2 ∧ _) ∧ _ ≤ (arS a (p.1 + x.fr * (p.2 - mxV x.at_ a), x.at_) pre).1 ∧ (arS a (p.1 + x.fr * (p.2 - mxV x.at_ a), x.at_) pre).1 ≤ _
    refine ⟨this.1, ?_, ?_⟩
    · have h := this.2.1; rw [List.length_cons]; push_cast; omega
    · have h := this.2.2; rw [List.length_cons]; push_cast; omega
def areaV (l : List StepD) (a b : Int) : Int := if durE l a b = 0 then (arS a (0, b) (durL l a b).reverse).1 else 0
theorem dur_in {l : List StepD} {a b : Int} (h : durE l a b = 0) : InP (durL l a b) ∧ (durL l a b).length ≤ l.length := by
  obtain ⟨hp, _⟩ := dur_yes h
  unfold durL
  by_cases hc : durE l a b = 0 ∧ a < b
  · rw [if_pos hc]
    unfold partL
    exact ⟨fun x hx => hp.ok x (List.mem_of_mem_drop (List.mem_of_mem_take hx)), by rw [List.length_take, List.length_drop]; omega⟩
  · rw [if_neg hc]; exact ⟨fun x hx => (by cases hx), Nat.zero_le _⟩
set_option maxHeartbeats 3200000 in
theorem area_any (l : List StepD) (a b : Int) (A : Option Addr) (n c : Nat) (hn : l.length = n) (hb : n ≤ 200) (w : World) (h : Stp w A c l) :
    Calls Try.prog 19 #[.slice A n c, .int .i64 a, .int .i64 b] w fun e w' => e = .returned (.tuple #[.int .i64 (areaV l a b), .int .i64 (durE l a b)]) ∧ Below w.heap.size w w' := by
  have HD := Lib.hid fun W (hW : Below w.heap.size w W) => during_any l a b A n c hn W (h.below hW)
  unfold RetS at HD
  obtain ⟨r, hr⟩ : ∃ r, durE l a b = r := ⟨_, rfl⟩
  obtain ⟨P, hP⟩ : ∃ P, durL l a b = P := ⟨_, rfl⟩
  obtain ⟨v, hv⟩ : ∃ v, areaV l a b = v := ⟨_, rfl⟩
  obtain ⟨m, hm⟩ : ∃ m, P.length = m := ⟨_, rfl⟩
  rw [hr, hP, hm] at HD
  rw [hr, hv]
  unfold areaV at hv
  rw [hr, hP] at hv
  refine (callsIn_wide (n := 3)).1 (callsIn_of_wp_marks Try.func19 rfl trivial ?_ rfl)
  simp only [Try.ntmps19, List.size_toArray, List.length_cons, List.length_nil, Nat.reduceAdd, Nat.reduceSub, Array.replicate_succ, Array.replicate_zero, List.push_toArray, List.append_toArray, List.nil_append, List.cons_append]
  refine wpIn_wide.2 ?_
  by_cases h2 : r = 2
  · subst h2
    rw [if_neg (by decide)] at hv
    subst hv
    clear h hn hr hP hm
    go_wp2_with fail
    refine (HD.out _ (al _ _)).mono ?_
    rintro e w1 ⟨A1, c1, rfl, hs1, hb1⟩
    have HB1 := Lib.hid (blw (al w _) hb1)
    clear hb1 hs1
    go_wp2
    exact ⟨_, results_tmp2 rfl _ _ _, rfl, HB1.out⟩
  · obtain rfl : r = 0 := by rcases dur_or l a b with q | q <;> omega
    rw [if_pos rfl] at hv
    obtain ⟨hin, hml⟩ := dur_in hr
    rw [hP] at hin hml
    obtain ⟨_, hi, hj, _⟩ := dur_yes hr
    have HAB := Lib.hid (Clk.isT_bd hi); have HBB := Lib.hid (Clk.isT_bd hj)
    have hm200 : m ≤ 200 := by omega
    have HIN := Lib.hid hin; have HV := Lib.hid hv; have HM := Lib.hid hm
    clear h hn hr hP hm hin hml hv hi hj
    go_wp2_with fail
    refine (HD.out _ (al _ _)).mono ?_
    rintro e w1 ⟨A1, c1, rfl, hs1, hb1⟩
    have HS1 := Lib.hid hs1
    have HB1 := Lib.hid (blw (al w (.cells #[.int .i64 a] 3)) hb1)
    have HF1 : Hid (w1.heap[w.heap.size]? = some (.cells #[.int .i64 a] 3 (0, 0))) := Lib.hid ((hb1.block _ (by simp)).trans (heap_alloc_new w _))
    clear hb1 hs1
    go_wp2_with fail
    refine (backward_any _ _ _ _).mono ?_
    rintro e w2 ⟨rfl, rfl⟩
    go_wp2_with fail
    have q0 := heap_alloc_new w1 (.cells #[.int .i64 0] 3)
    have q1 := heap_alloc_new (w1.alloc (.cells #[.int .i64 0] 3)) (.cells #[.int .i64 b] 3)
    have q2 := heap_alloc_new ((w1.alloc (.cells #[.int .i64 0] 3)).alloc (.cells #[.int .i64 b] 3)) (.cells #[.slice A1 m c1] 22)
    have hbA := al w1 (.cells #[.int .i64 0] 3)
    have hbB := al (w1.alloc (.cells #[.int .i64 0] 3)) (.cells #[.int .i64 b] 3)
    have hbC := al ((w1.alloc (.cells #[.int .i64 0] 3)).alloc (.cells #[.int .i64 b] 3)) (.cells #[.slice A1 m c1] 22)
    have q0' := (hbC.block _ (by simp; omega)).trans ((hbB.block _ (by simp)).trans q0)
    have q1' := (hbC.block _ (by simp)).trans q1
    have hb8 := blw (blw hbA hbB) hbC
    have hz8 : (((w1.alloc (.cells #[.int .i64 0] 3)).alloc (.cells #[.int .i64 b] 3)).alloc (.cells #[.slice A1 m c1] 22)).heap.size = w1.heap.size + 3 := by simp
    simp only [World.size_alloc] at q1' q2
    clear q0 q1 hbA hbB hbC
    generalize ((w1.alloc (.cells #[.int .i64 0] 3)).alloc (.cells #[.int .i64 b] 3)).alloc (.cells #[.slice A1 m c1] 22) = W8 at q0' q1' q2 hb8 hz8 ⊢
    obtain ⟨g, hg⟩ : ∃ g, w1.heap.size = g := ⟨_, rfl⟩
    have hwg : w.heap.size < g := by rw [← hg]; exact Dag.blk_lt HF1.out
    rw [hg] at q0' q1' q2 hb8 hz8 ⊢
    have HQ0 := Lib.hid q0'; have HQ1 := Lib.hid q1'; have HQ2 := Lib.hid q2; have HB8 := Lib.hid hb8; have HZ8 := Lib.hid hz8; have HG := Lib.hid hg
    clear q0' q1' q2 hb8 hz8 hg
    refine (wpIn_wide (n := 3)).1 (range_seqA (α := StepD) (gf := 52) (lb := #[.pointer (some ⟨g + 1 + 1, 0, none⟩)]) rfl (fun args w => by simp [go_sem]) (fun pre x args X h => by obtain ⟨_, i, rfl⟩ := h; rfl)
      ((bw1_seqK (3 - 1) P m HM.out (by omega) (g + 1 + 1) A1 c1).toB W8) (Below.refl _ _) (fun pre x args X Y h => h)
      (fun pre X => ∃ s e, Hid (arS a (0, b) pre = (s, e)) ∧ Hid (X.heap[g]? = some (.cells #[.int .i64 s] 3 (0, 0))) ∧ Hid (X.heap[g + 1]? = some (.cells #[.int .i64 e] 3 (0, 0))) ∧ Hid (X.heap[g + 1 + 1]? = some (.cells #[.slice A1 m c1] 22 (0, 0))) ∧ Hid (Below g w1 X) ∧ Hid (W8.heap.size ≤ X.heap.size))
      (fun _ _ _ => False)
      ?oi ?oix ?ok ?h0 (fun args => Obj.cells (match args[1]?.getD undef with | Value.agg xs => xs | _ => #[]) 48)
      (fun args g2 => { tmps := #[.slice A n c, .int .i64 a, .int .i64 b, undef, .pointer (some ⟨w.heap.size, 0, none⟩), undef, .int .i64 0, .int .i64 0, .slice A1 m c1, .int .i64 0, .pointer (some ⟨g, 0, none⟩), .pointer (some ⟨g + 1, 0, none⟩), undef, .pointer (some ⟨g2, 0, none⟩), .tuple #[.slice A1 m c1, .int .i64 0], .slice A n c, .int .i64 a, .int .i64 b, .tuple #[.slice A1 m c1, .int .i64 0], .slice A1 m c1, .int .i64 0, .int .i64 0, .bool false, undef, .int .i64 b, .slice A1 m c1, .func (.func 52) #[] #[.pointer (some ⟨g + 1 + 1, 0, none⟩)], args[0]?.getD undef, args[1]?.getD undef, undef, undef, undef, undef, undef, undef, undef, undef, undef, undef, undef, undef, undef, undef], defers := [] }) ?assign ?body ?done ?stop)
    case oi =>
      rintro pre X Y ⟨s, e, h1, h2, h3, h4, h5, h6⟩ hb
      have hz := HZ8.out
      exact ⟨s, e, h1, Lib.hid ((hb.block _ (by omega)).trans h2.out), Lib.hid ((hb.block _ (by omega)).trans h3.out), Lib.hid ((hb.block _ (by omega)).trans h4.out), Lib.hid (h5.out.trans (hb.mono (by omega))), Lib.hid (Nat.le_trans h6.out hb.size)⟩
    case oix => exact fun c pre X Y h _ => h
    case ok =>
      rintro pre X ⟨s, e, h1, h2, h3, h4, h5, h6⟩
      have hc := Dag.blk_cell h4.out 0
      exact ⟨by simpa using hc, HS1.out.below (by rw [HG.out]; exact h5.out)⟩
    case h0 => exact ⟨0, b, Lib.hid rfl, HQ0, HQ1, HQ2, HB8, Lib.hid (Nat.le_refl _)⟩
    case assign =>
      rintro l2 pre x args X K ⟨_, i, rfl⟩ hK
      gi_wp2
      exact hK
    case body =>
      rintro l2 pre x args X g2 ⟨s, e, h1, h2, h3, h4, h5, h6⟩ ⟨⟨post, hpost⟩, i, rfl⟩ hg2 hle
      have hz := HZ8.out
      have hxP : x ∈ P := List.mem_reverse.1 (by rw [hpost]; simp)
      have hx := HIN.out x hxP
      have ha := HAB.out; have hbb := HBB.out
      have hbd := arS_bd ha pre (0, b) 0 (fun y hy => HIN.out y (List.mem_reverse.1 (by rw [hpost]; simp [hy]))) hbb (by constructor <;> show _ ≤ _ <;> simp)
      have hpl : pre.length ≤ 200 := by
        have := congrArg List.length hpost
        rw [List.length_reverse, HM.out] at this
        simp at this; omega
      rw [h1.out] at hbd
      have hs1 : -2199023255550000000 ≤ s ∧ s ≤ 2199023255550000000 := by
        have k1 := hbd.2.1; have k2 := hbd.2.2
        constructor
        · have : (-(10995116277750000 * (0 + (pre.length : Int)))) ≤ s := k1
          omega
        · have : s ≤ 10995116277750000 * (0 + (pre.length : Int)) := k2
          omega
      have he1 : 0 ≤ e ∧ e ≤ 1099511627775 := hbd.1
      have hmx := mxV_bd hx.1 ha
      have hmul := mul_bd hx.2 (y := e - mxV x.at_ a) (by omega)
      have HS2 : Hid (arS a (0, b) (pre ++ [x]) = (s + x.fr * (e - mxV x.at_ a), x.at_)) := Lib.hid (by rw [arS_app, h1.out])
      obtain ⟨M, hM⟩ : ∃ M, mxV x.at_ a = M := ⟨_, rfl⟩
      have hMM : (if x.at_ < a then a else x.at_) = M := hM
      rw [hM] at hmx hmul HS2
      have w1' : IntKind.i64.wrap (e - M) = e - M := IntWalk.i64_in _ (by omega)
      have w2' : IntKind.i64.wrap (x.fr * (e - M)) = x.fr * (e - M) := IntWalk.i64_in _ (by omega)
      have w3' : IntKind.i64.wrap (s + x.fr * (e - M)) = s + x.fr * (e - M) := IntWalk.i64_in _ (by omega)
      have c1a := Dag.blk_cell h2.out 0; have f1a := Dag.blk_frozen h2.out 0
      have c2a := Dag.blk_cell h3.out 0; have f2a := Dag.blk_frozen h3.out 0
      have c3a := Dag.blk_cell hg2 0; have c3b := Dag.blk_cell hg2 1
      have hfa : X.heap[w.heap.size]? = some (.cells #[.int .i64 a] 3 (0, 0)) := (h5.out.block _ (by rw [← HG.out]; exact Dag.blk_lt HF1.out)).trans HF1.out
      have c4a := Dag.blk_cell hfa 0
      simp only [List.getElem?_toArray, List.getElem?_cons_zero] at c1a c2a c3a c4a
      have c3a' : X.cell? ⟨g2, 0, none⟩ = some (.int .i64 x.at_) := c3a
      have c3b' : X.cell? ⟨g2, 1, none⟩ = some (.int .i64 x.fr) := c3b
      have n1 : g2 ≠ g := by omega
      have n2 : g2 ≠ g + 1 := by omega
      have n3 : g ≠ g + 1 := by omega
      have hgl : g < X.heap.size := Dag.blk_lt h2.out
      have HX2 := h2; have HX3 := h3; have HX4 := h4; have HX5 := h5; have HX6 := h6; have HHG2 := Lib.hid hg2
      clear h1 h2 h3 h4 h5 h6 hpost hxP hbd hpl hM c3a c3b hg2 hx hmul hmx hs1 he1 hfa
      gi_wp2
      refine ⟨((Above.refl _ X).setCell (p := ⟨g, 0, none⟩) (by show g < _; omega) _).setCell (p := ⟨g + 1, 0, none⟩) (by show g + 1 < _; omega) _, s + x.fr * (e - M), x.at_, HS2, Lib.hid ?_, Lib.hid ?_, Lib.hid ?_, Lib.hid ?_, Lib.hid ?_⟩
      · exact (Dag.blk_other n3).trans (Dag.blk_set HX2.out 0 _)
      · exact Dag.blk_set ((Dag.blk_other (fun e => n3 e.symm)).trans HX3.out) 0 _
      · exact (Dag.blk_other (by omega)).trans ((Dag.blk_other (by omega)).trans HX4.out)
      · exact (HX5.out.setCell (p := ⟨g, 0, none⟩) (Nat.le_refl _) _).setCell (p := ⟨g + 1, 0, none⟩) (by show g ≤ g + 1; omega) _
      · have := HX6.out; simpa using this
    case done =>
      rintro D pre X hD hS ⟨s, e, h1, h2, h3, h4, h5, h6⟩ hdef
      subst hS
      have hz := HZ8.out
      have hsv : s = v := by have := HV.out; rw [h1.out] at this; exact this
      subst hsv
      have c1a := Dag.blk_cell h2.out 0
      simp only [List.getElem?_toArray, List.getElem?_cons_zero] at c1a
      have HDF := Lib.hid hdef
      have HBX : Hid (Below w.heap.size w X) := Lib.hid (HB1.out.trans (h5.out.mono (by omega)))
      clear h1 h2 h3 h4 h5 h6 hdef
      go_wp2_with fail
      refine leaves_marksB (base := w.heap.size) [D] X ⟨List.nodup_cons.2 ⟨by simp, List.nodup_nil⟩, fun D' hD' => by obtain rfl := List.mem_singleton.1 hD'; exact HDF.out⟩ (fun D' hD' => by obtain rfl := List.mem_singleton.1 hD'; omega) fun W' hB' hk hsz => ?_
      exact ⟨_, results_tmp2 rfl _ _ _, rfl, HBX.out.trans hB'⟩
    case stop => exact fun D c pre X _ h _ => h.elim
end Go.Proofs.Ytmlkomcjbcolhaa.Stp

