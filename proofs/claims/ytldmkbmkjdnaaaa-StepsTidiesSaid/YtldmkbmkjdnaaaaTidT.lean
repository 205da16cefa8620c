/- The document's tidy, and has. -/
import Derived.Test.YtldmkbmkjdnaaaaTidI
import Derived.Test.YtldmkbmkjdnaaaaStpM
namespace Go.Proofs.Ytldmkbmkjdnaaaa.Stp
open Go.RowKit Go.Shelf Go.Proofs.Ytldmkbmkjdnaaaa.Srt
open Dag (Ints Own1 OwnI Sl ints ints_len ints_app)
set_option linter.unusedVariables false
set_option maxRecDepth 100000
theorem OwnS.apart {w w' : World} {base : Nat} {v : Value} {l : List StepD} (h : OwnS w base v l) {r : Option Nat} (hg : w.grownBy w' r) (hr : v.ownBlock = none ∨ v.ownBlock ≠ r) : OwnS w' base v l := by
  refine ⟨h.1, ?_⟩
  rcases h.2 with h0 | ⟨g, cap, cur, hv, hbg, hh, rest⟩
  · exact Or.inl h0
  · refine Or.inr ⟨g, cap, cur, hv, hbg, ?_, rest⟩
    rw [hg.block g (Dag.blk_lt hh) (fun e => ?_)]
    · exact hh
    · have eo : v.ownBlock = some g := by rw [hv]; rfl
      rcases hr with q | q
      · rw [eo] at q; cases q
      · exact q (eo.trans e)
/-- append of one step onto steps of one's own -/
theorem wpList_app1g {w : World} {ops : Array Oper} {rest : List Oper} {o : Oper} {a : Act} {Q : Exit → Act → World → Prop} (hgd : o.guard = none) (s x : Operand)
    (ho : o.op = .call { callee := .builtin .append, args := #[s, x], argTypes := #[22, 22] })
    (base : Nat) (v : Value) (l : List StepD) (hs : a.eval s = v) (hown : OwnS w base v l) (g cx : Nat) (u : StepD) (hx : a.eval x = .slice (some ⟨g, 0, none⟩) 1 cx)
    (h0 : w.cell? ⟨g, 0, none⟩ = some (.int .i64 u.at_)) (h1 : w.cell? ⟨g, 1, none⟩ = some (.int .i64 u.fr)) (hlen : l.length ≤ 1000000) (hbase : base ≤ w.heap.size)
    (h : ∀ (A' : Option Addr) (c' : Nat) (w' : World), OwnS w' base (.slice A' (l ++ [u]).length c') (l ++ [u]) → w.grownBy w' v.ownBlock → ((Value.slice A' (l ++ [u]).length c').ownBlock = v.ownBlock ∨ (Value.slice A' (l ++ [u]).length c').ownBlock = some w.heap.size) → Below base w w' →
      wpList Try.prog ops Q rest (a.put o.dst (.slice A' (l ++ [u]).length c')) w') :
    wpList Try.prog ops Q (o :: rest) a w := by
  obtain ⟨i0, hi0, hz0, hz1, hz2⟩ := info_parts info_step
  refine wpList_append_own_at w hgd s x _ ho base _ i0 (.agg #[.int .i64 0, .int .i64 0]) 2 16 Try.underlying22 hi0 hz0 hz1 hz2 rfl (by decide) v l.length (flat l) hs hown ⟨g, 0, none⟩ 1 cx [.int .i64 u.at_, .int .i64 u.fr] hx rfl ?_ ?_ (by simp only [maxLen]; omega) (by omega) hbase ?_
  · intro j y hy
    rw [Go.WideShapes.add_plain, Nat.zero_add]
    match j, hy with
    | 0, hy => injection hy with hy; subst hy; exact h0
    | 1, hy => injection hy with hy; subst hy; exact h1
    | j + 2, hy => simp at hy
  · intro y hy
    simp only [List.mem_cons, List.mem_nil_iff, or_false] at hy
    rcases hy with rfl | rfl <;> rfl
  · intro v' w' hown' hg _ hb
    have ho2 : OwnS w' base v' (l ++ [u]) := by
      unfold OwnS
      rw [flat_app, List.length_append, List.length_singleton]
      exact hown'
    obtain ⟨A', c', e, _⟩ := ho2.slice
    subst e
    exact h A' c' w' ho2 hg hb ((Below.refl _ _).grown hg hbase fun k hk => (hown.blk hk).1)
theorem hasI_any (l : List Int) (x : Int) (A : Option Addr) (n c : Nat) (hn : l.length = n) (hb : n ≤ 100000) (w : World) (h : Ints w A c l) :
    Calls Try.prog 37 #[.slice A n c, .int .i64 x] w fun e w' => e = .returned (.bool (decide (x ∈ l))) ∧ Below w.heap.size w w' := by
  obtain ⟨r, hr⟩ : ∃ r, decide (x ∈ l) = r := ⟨_, rfl⟩
  rw [hr]
  have H := Lib.hid h; have HN := Lib.hid hn; have HR : Hid (decide (x ∈ l.drop 0) = r) := Lib.hid hr
  clear h hn hr
  go_enter Try.func37, Try.ntmps37
  go_wp2
  go_loopw [5] (fun vi wr => ∃ k : Nat, k ≤ n ∧ vi = .int .i64 k ∧ Hid (decide (x ∈ l.drop k) = r) ∧ Hid (Below w.heap.size w wr)) (fun vi _ => n - (intOf vi).toNat)
  case atStart => exact ⟨0, Nat.zero_le _, rfl, HR, Lib.hid (Below.refl _ _)⟩
  case round =>
    obtain ⟨k, hk, rfl, HS, HB⟩ := hrel
    by_cases hlt : k < n
    · obtain ⟨b1, o1, y, e1, hy, c1⟩ := (Ints.below H.out HB.out).at_ (k := k) (by rw [HN.out]; exact hlt)
      subst e1
      have hd : l.drop k = y :: l.drop (k + 1) := by
        rw [List.drop_eq_getElem_cons (by rw [HN.out]; exact hlt), (List.getElem?_eq_some_iff.1 hy).2]
      have hs := HS.out
      rw [hd] at hs
      by_cases e : y = x
      · obtain rfl : r = true := by rw [← hs, e]; simp
        have hyx : (y == x) = true := by rw [beq_iff_eq]; exact e
        clear hs hd hy e HS HR
        go_wp2
        go_ret
        exact ⟨rfl, HB.out⟩
      · have HS2 : Hid (decide (x ∈ l.drop (k + 1)) = r) := Lib.hid (by rw [← hs]; simp [Ne.symm e])
        have hyx : (y == x) = false := by rw [beq_eq_false_iff_ne]; exact e
        clear hs hd hy e HS
        go_wp2
        go_roundw
        case rel => exact ⟨k + 1, by omega, by go_num, HS2, HB⟩
        case measure => simp [intOf]; omega
    · obtain rfl : r = false := by
        have := HS.out
        rw [show l.drop k = [] from List.drop_eq_nil_of_le (by rw [HN.out]; omega)] at this
        simpa using this.symm
      go_wp2
      go_ret
      exact ⟨rfl, HB.out⟩
set_option maxHeartbeats 800000 in
theorem tidyG_any (l : List StepD) (s : StepD) (base : Nat) (A : Option Addr) (n c : Nat) (w : World) (ho : OwnS w base (.slice A n c) l) (hb : base ≤ w.heap.size) (hl : n ≤ 1000000) :
    Calls Try.prog 38 #[.slice A n c, .agg #[.int .i64 s.at_, .int .i64 s.fr]] w fun e w' => ∃ A' c', e = .returned (.slice A' (putD l s).length c') ∧ OwnS w' base (.slice A' (putD l s).length c') (putD l s) ∧ Below base w w' ∧ w.grownBy w' (Value.slice A n c).ownBlock ∧ ((Value.slice A' (putD l s).length c').ownBlock = (Value.slice A n c).ownBlock ∨ ∃ g, (Value.slice A' (putD l s).length c').ownBlock = some g ∧ w.heap.size ≤ g) := by
  obtain ⟨hn, hs⟩ := ho.stp
  have HN := Lib.hid hn
  have hb0 : Below base w (w.alloc (.cells #[.int .i64 s.at_, .int .i64 s.fr] 52)) := (al w _).mono hb
  have hz0 : Below w.heap.size w (w.alloc (.cells #[.int .i64 s.at_, .int .i64 s.fr] 52)) := al w _
  have how := ho.below (al w (.cells #[.int .i64 s.at_, .int .i64 s.fr] 52))
  obtain ⟨x3, x4⟩ := new2 w (.int .i64 s.at_) (.int .i64 s.fr) 52
  unfold putD
  by_cases h0 : n = 0
  · subst h0
    obtain rfl : l = [] := List.eq_nil_of_length_eq_zero hn.symm
    rw [if_neg (by simp)]
    clear ho hs hn
    go_enter Try.func38, Try.ntmps38
    go_wp2_with fail
    generalize w.alloc (.cells #[.int .i64 s.at_, .int .i64 s.fr] 52) = W1 at hz0 hb0 how x3 x4 ⊢
    go_quiet (fail)
    have y3 := kp (drN W1 nq) x3
    have y4 := kp (drN W1 nq) x4
    have hz2 := blw hz0 (drN W1 nq)
    have hb2 := hb0.trans ((drN W1 nq).mono (Nat.le_trans hb hb0.size))
    have ho2 := how.below (drN W1 nq)
    have hbs : base ≤ (W1.drewN nq).heap.size := Nat.le_trans hb hb2.size
    generalize W1.drewN nq = W2 at y3 y4 hz2 hb2 ho2 hbs ⊢
    clear x3 x4 hb0 how
    go_wp2_with (at_builtin; refine wpList_app1g rfl (.tmp 21) (.tmp 23) rfl base _ [] rfl (ho2.below (al W2 _)) W2.heap.size 1 s rfl (new2 W2 _ _ _).1 (new2 W2 _ _ _).2 (by first | exact Nat.zero_le _ | (rw [← HN.out]; omega)) (Nat.le_trans hbs (al W2 (.cells #[.int .i64 s.at_, .int .i64 s.fr] 52)).size) ?_; intro A' c' w' ho' hg' hob' hb'; have HO' := Lib.hid ho'; have HZ := blw hz2 (al W2 (.cells #[.int .i64 s.at_, .int .i64 s.fr] 52)); have HG' := Lib.hid (grown_trans (Below.grow HZ _) hg'); have HOB := Lib.hid (Or.imp id (fun q => (⟨_, q, HZ.size⟩ : ∃ g, _ = some g ∧ w.heap.size ≤ g)) hob'); clear ho' hg' hob' HZ)
    go_ret
    exact ⟨A', c', by simp, HO'.out, (hb2.trans ((al W2 _).mono hbs)).trans hb', HG'.out, HOB.out⟩
  · obtain ⟨m, hm⟩ : ∃ m, n = m + 1 := ⟨n - 1, by omega⟩
    have hnl : n ≤ 9223372036854775807 := by omega
    obtain ⟨b, off, u, eA, hu, c0, c1⟩ := hs.lt (k := m) (by omega)
    subst eA
    have hlv : lastV 0 l = u.fr := lastV_get 0 (by rw [← hn, hm]; exact hu)
    have wm : IntKind.i64.wrap ((n : Int) - 1) = (m : Int) := by rw [IntWalk.i64_in _ (by omega)]; omega
    have hn0 : 0 < n := by omega
    have hmn : m < n := by omega
    have c2 := kp (al w (.cells #[.int .i64 s.at_, .int .i64 s.fr] 52)) c1
    by_cases he : u.fr = s.fr
    · rw [if_pos ⟨by omega, hlv.trans he⟩]
      have hbe : (u.fr == s.fr) = true := by rw [beq_iff_eq]; exact he
      have hne : l.length = n := hn.symm
      rw [hlv.symm] at hbe c2
      clear ho hs hu hlv he hm c0 c1 hn h0
      go_enter Try.func38, Try.ntmps38
      go_wp2_with fail
      generalize w.alloc (.cells #[.int .i64 s.at_, .int .i64 s.fr] 52) = W1 at hz0 hb0 how x3 x4 c2 ⊢
      go_quiet (fail)
      go_wp2
      go_ret
      refine ⟨some ⟨b, off, none⟩, c, by rw [← HN.out]; rfl, ?_, ?_, Below.grow (blw hz0 (drN W1 nq)) _, Or.inl rfl⟩
      · have := how.below (drN W1 nq)
        rwa [← HN.out]
      · exact hb0.trans ((drN W1 nq).mono (Nat.le_trans hb hb0.size))
    · rw [if_neg (fun e => he (hlv.symm.trans e.2))]
      have hbe : (u.fr == s.fr) = false := by rw [beq_eq_false_iff_ne]; exact he
      clear ho hs hu hlv he hm c0 c1 hn h0
      go_enter Try.func38, Try.ntmps38
      go_wp2_with fail
      generalize w.alloc (.cells #[.int .i64 s.at_, .int .i64 s.fr] 52) = W1 at hz0 hb0 how x3 x4 c2 ⊢
      go_quiet (fail)
      have y3 := kp (drN W1 nq) x3
      have y4 := kp (drN W1 nq) x4
      have hz2 := blw hz0 (drN W1 nq)
      have hb2 := hb0.trans ((drN W1 nq).mono (Nat.le_trans hb hb0.size))
      have ho2 := how.below (drN W1 nq)
      have hbs : base ≤ (W1.drewN nq).heap.size := Nat.le_trans hb hb2.size
      generalize W1.drewN nq = W2 at y3 y4 hz2 hb2 ho2 hbs ⊢
      clear x3 x4 hb0 how
      go_wp2_with (at_builtin; refine wpList_app1g rfl (.tmp 21) (.tmp 23) rfl base _ l rfl (ho2.below (al W2 _)) W2.heap.size 1 s rfl (new2 W2 _ _ _).1 (new2 W2 _ _ _).2 (by first | exact Nat.zero_le _ | (rw [← HN.out]; omega)) (Nat.le_trans hbs (al W2 (.cells #[.int .i64 s.at_, .int .i64 s.fr] 52)).size) ?_; intro A' c' w' ho' hg' hob' hb'; have HO' := Lib.hid ho'; have HZ := blw hz2 (al W2 (.cells #[.int .i64 s.at_, .int .i64 s.fr] 52)); have HG' := Lib.hid (grown_trans (Below.grow HZ _) hg'); have HOB := Lib.hid (Or.imp id (fun q => (⟨_, q, HZ.size⟩ : ∃ g, _ = some g ∧ w.heap.size ≤ g)) hob'); clear ho' hg' hob' HZ)
      go_ret
      exact ⟨A', c', by simp, HO'.out, (hb2.trans ((al W2 _).mono hbs)).trans hb', HG'.out, HOB.out⟩
end Go.Proofs.Ytldmkbmkjdnaaaa.Stp

