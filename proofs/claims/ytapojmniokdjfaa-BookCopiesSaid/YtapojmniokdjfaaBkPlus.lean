/- Layer 11. -/
import Derived.Test.YtapojmniokdjfaaBkS
import Derived.Test.YtapojmniokdjfaaBkA
import Derived.Test.YtapojmniokdjfaaTidI
/- Layer 11: plus. -/
namespace Go.Proofs.Ytapojmniokdjfaa.Bk
open Go.RowKit Go.Shelf
open Stp (mk_steps blw al dr drN kp Stp OwnS RetP flat flat_len flat_app info_step new2 wpList_app1)
set_option linter.unusedVariables false
set_option maxRecDepth 100000

/-- append of two steps onto steps of one's own -/
theorem wpList_app2 {w : World} {ops : Array Oper} {rest : List Oper} {o : Oper} {a : Act} {Q : Exit → Act → World → Prop} (hgd : o.guard = none) (s x : Operand)
    (ho : o.op = .call { callee := .builtin .append, args := #[s, x], argTypes := #[38, 38] })
    (base : Nat) (v : Value) (l : List StepD) (hs : a.eval s = v) (hown : OwnS w base v l) (g cx : Nat) (u1 u2 : StepD) (hx : a.eval x = .slice (some ⟨g, 0, none⟩) 2 cx)
    (h0 : w.cell? ⟨g, 0, none⟩ = some (.int .i64 u1.at_)) (h1 : w.cell? ⟨g, 1, none⟩ = some (.int .i64 u1.fr)) (h2 : w.cell? ⟨g, 2, none⟩ = some (.int .i64 u2.at_)) (h3 : w.cell? ⟨g, 3, none⟩ = some (.int .i64 u2.fr)) (hlen : l.length ≤ 1000000) (hbase : base ≤ w.heap.size)
    (h : ∀ (A' : Option Addr) (c' : Nat) (w' : World), OwnS w' base (.slice A' (l ++ [u1, u2]).length c') (l ++ [u1, u2]) → w.grownBy w' v.ownBlock → Below base w w' →
      wpList Try.prog ops Q rest (a.put o.dst (.slice A' (l ++ [u1, u2]).length c')) w') :
    wpList Try.prog ops Q (o :: rest) a w := by
  obtain ⟨i0, hi0, hz0, hz1, hz2⟩ := info_parts info_step
  refine wpList_append_own_at w hgd s x _ ho base _ i0 (.agg #[.int .i64 0, .int .i64 0]) 2 16 Try.underlying38 hi0 hz0 hz1 hz2 rfl (by decide) v l.length (flat l) hs hown ⟨g, 0, none⟩ 2 cx [.int .i64 u1.at_, .int .i64 u1.fr, .int .i64 u2.at_, .int .i64 u2.fr] hx rfl ?_ ?_ (by simp only [maxLen]; omega) (by omega) hbase ?_
  · intro j y hy
    rw [Go.WideShapes.add_plain, Nat.zero_add]
    match j, hy with
    | 0, hy => injection hy with hy; subst hy; exact h0
    | 1, hy => injection hy with hy; subst hy; exact h1
    | 2, hy => injection hy with hy; subst hy; exact h2
    | 3, hy => injection hy with hy; subst hy; exact h3
    | j + 4, hy => simp at hy
  · intro y hy
    simp only [List.mem_cons, List.mem_nil_iff, or_false] at hy
    rcases hy with rfl | rfl | rfl | rfl <;> rfl
  · intro v' w' hown' hg _ hb
    have ho2 : OwnS w' base v' (l ++ [u1, u2]) := by
      have e : flat (l ++ [u1, u2]) = flat l ++ [.int .i64 u1.at_, .int .i64 u1.fr, .int .i64 u2.at_, .int .i64 u2.fr] := by
        rw [show l ++ [u1, u2] = (l ++ [u1]) ++ [u2] from by simp, flat_app, flat_app]; simp
      unfold OwnS
      rw [e, List.length_append]
      exact hown'
    obtain ⟨A', c', e, _⟩ := ho2.slice
    subst e
    exact h A' c' w' ho2 hg ((Below.refl _ _).grown hg hbase fun k hk => (hown.blk hk).1)
theorem new4 (w : World) (x y z u : Value) (t : TypeId) : (w.alloc (.cells #[x, y, z, u] t)).cell? ⟨w.heap.size, 0, none⟩ = some x ∧ (w.alloc (.cells #[x, y, z, u] t)).cell? ⟨w.heap.size, 1, none⟩ = some y ∧ (w.alloc (.cells #[x, y, z, u] t)).cell? ⟨w.heap.size, 2, none⟩ = some z ∧ (w.alloc (.cells #[x, y, z, u] t)).cell? ⟨w.heap.size, 3, none⟩ = some u :=
  have c := fun i => Dag.blk_cell (heap_alloc_new w (.cells #[x, y, z, u] t)) i
  ⟨(c 0).trans rfl, (c 1).trans rfl, (c 2).trans rfl, (c 3).trans rfl⟩
theorem gcell {w w' : World} {row : Option Nat} {b o : Nat} {v : Value} (h : w.grownBy w' row) (hb : row ≠ some b) (hc : w.cell? ⟨b, o, none⟩ = some v) : w'.cell? ⟨b, o, none⟩ = some v := by
  have hl := World.block_lt_of_cell? w _ hc
  unfold World.cell? at hc ⊢
  rw [h.block b hl (fun e => hb e.symm)]; exact hc
set_option maxHeartbeats 3200000 in
theorem plus_any (l : List StepD) (L : List SlotD) (k : Int) (hk : k = 1 ∨ k = -1) (A B : Option Addr) (c d : Nat) (w : World) (h0 : 0 < l.length) (hbl : l.length ≤ 1000) (hbL : L.length ≤ 1000) (hfl : ∀ s ∈ l, -20000 ≤ s.fr ∧ s.fr ≤ 20000) (hfL : ∀ s ∈ L, (0 ≤ s.fm ∧ s.fm ≤ s.to) ∧ 1 ≤ s.nd ∧ s.nd ≤ 10000) (hr : Rise (-1) l) (hA : Stp w A c l) (hB : Slt w B d L) :
    Calls Try.prog 41 #[.slice A l.length c, .slice B L.length d, .int .i64 k] w fun e w' => ∃ R, PlusR l L k R ∧ RetP w.heap.size R w e w' := by
  obtain ⟨n, hn⟩ : ∃ n, l.length = n := ⟨_, rfl⟩
  obtain ⟨m, hm⟩ : ∃ m, L.length = m := ⟨_, rfl⟩
  rw [hn, hm]
  rw [hn] at hbl h0
  rw [hm] at hbL
  obtain ⟨cur0, hcz, hmk⟩ := mk_steps (n + 2 * m) (by omega)
  simp only [Int.natCast_add, Int.natCast_mul, Int.cast_ofNat_Int] at hmk
  have HST := Lib.hid (OwnS.start (w := w) hcz (by omega))
  have HFL := Lib.hid hfl; have HFM := Lib.hid hfL; have HRI := Lib.hid hr
  have HAA := Lib.hid fun W (hW : Below w.heap.size w W) => hA.below hW
  have HBB := Lib.hid fun W (hW : Below w.heap.size w W) => hB.below hW
  clear hfl hfL hr hA hB hcz
  have HN := Lib.hid hn
  have HM := Lib.hid hm
  clear hn hm
  go_enter Try.func41, Try.ntmps41
  go_wp2_with fail
  go_loopw [7, 8, 25] (fun vc vf vi wr => ∃ (i : Nat) (out : List StepD) (p : Int) (O : Option Addr) (co : Nat), i ≤ n ∧ vi = .int .i64 i ∧ vf = .int .i64 p ∧ vc = .slice O out.length co ∧ Hid (out.length = i) ∧ (-20000 ≤ p ∧ p ≤ 20000) ∧ Hid (OwnS wr w.heap.size (.slice O out.length co) out) ∧ Hid (Below w.heap.size w wr) ∧ Hid (out ++ difL p (l.drop i) = difL 0 l)) (fun _ _ vi _ => n - (intOf vi).toNat)
  case atStart => exact ⟨0, [], 0, some ⟨w.heap.size, 0, none⟩, n + 2 * m, Nat.zero_le _, rfl, rfl, rfl, Lib.hid rfl, by omega, HST, Lib.hid (al w _), Lib.hid rfl⟩
  case round =>
    obtain ⟨i, out, p, O, co, hi, rfl, rfl, rfl, HLN, hp, HO, HX, HT⟩ := hrel
    by_cases hlt : i < n
    · obtain ⟨b, off, s, eA, hs, c0, c1⟩ := (HAA.out wr HX.out).lt (k := i) (by rw [HN.out]; exact hlt)
      have hsf := HFL.out s (List.mem_of_getElem? hs)
      subst eA
      have hd : l.drop i = s :: l.drop (i + 1) := by
        rw [List.drop_eq_getElem_cons (by rw [HN.out]; exact hlt), (List.getElem?_eq_some_iff.1 hs).2]
      have ht := HT.out
      rw [hd] at ht
      have HT2 : Hid ((out ++ [⟨s.at_, s.fr - p⟩]) ++ difL s.fr (l.drop (i + 1)) = difL 0 l) := Lib.hid (by rw [← ht]; simp [difL])
      obtain ⟨x3, x4⟩ := new2 (wr.alloc (.cells #[.int .i64 s.at_, .int .i64 s.fr] 58)) (.int .i64 s.at_) (.int .i64 (s.fr - p)) 58
      rw [show (wr.alloc (.cells #[.int .i64 s.at_, .int .i64 s.fr] 58)).heap.size = wr.heap.size + 1 from by simp] at x3 x4
      have HXC := Lib.hid (And.intro x3 x4)
      have HB2 := Lib.hid (blw HX.out (blw (al wr (.cells #[.int .i64 s.at_, .int .i64 s.fr] 58)) (al (wr.alloc (.cells #[.int .i64 s.at_, .int .i64 s.fr] 58)) (.cells #[.int .i64 s.at_, .int .i64 (s.fr - p)] 58))))
      have HO2 := Lib.hid (HO.out.below (blw (al wr (.cells #[.int .i64 s.at_, .int .i64 s.fr] 58)) (al (wr.alloc (.cells #[.int .i64 s.at_, .int .i64 s.fr] 58)) (.cells #[.int .i64 s.at_, .int .i64 (s.fr - p)] 58))))
      have HBX := Lib.hid (kp (al (wr.alloc (.cells #[.int .i64 s.at_, .int .i64 s.fr] 58)) (.cells #[.int .i64 s.at_, .int .i64 (s.fr - p)] 58)) (new2 wr (.int .i64 s.at_) (.int .i64 s.fr) 58).2)
      have HNB : Hid ((Value.slice O out.length co).ownBlock ≠ some wr.heap.size) := Lib.hid (fun e => by have := (HO.out.blk e).2; omega)
      have HLL : Hid (out.length ≤ 1000000) := Lib.hid (by have := HLN.out; omega)
      have HZ2 := Lib.hid HB2.out.size
      clear ht hs hd x3 x4 HT
      go_wp2_with (at_builtin; refine wpList_app1 rfl (.tmp 29) (.tmp 37) rfl w.heap.size (.slice O out.length co) out rfl HO2.out (wr.heap.size + 1) 1 ⟨s.at_, s.fr - p⟩ rfl HXC.out.1 HXC.out.2 HLL.out HZ2.out ?_; intro A9 c9 w9 ho9 hg9 hb9; have HO9 := Lib.hid ho9; have HB9 := Lib.hid (HB2.out.trans hb9); have bx := gcell hg9 HNB.out HBX.out; clear ho9 hg9 hb9)
      refine ⟨⟨i + 1, out ++ [⟨s.at_, s.fr - p⟩], s.fr, A9, c9, by omega, by go_num, rfl, by simp, Lib.hid (by have := HLN.out; rw [List.length_append, List.length_singleton]; omega), hsf, HO9, HB9, HT2⟩, ?_⟩
      simp [intOf]; omega
    · obtain rfl : i = n := by omega
      have hT := HT.out
      rw [show l.drop i = [] from List.drop_eq_nil_of_le (by rw [HN.out]; exact Nat.le_refl _)] at hT
      have HT1 : Hid (out ++ slD k (L.drop 0) = chgL l L k) := Lib.hid (by unfold chgL; rw [← hT]; simp [difL])
      have HLN1 : Hid (out.length = i + 2 * 0) := Lib.hid HLN.out
      clear hT HT
      go_wp2_with fail
      go_loopw [7, 44] (fun vc vi wr => ∃ (j : Nat) (out : List StepD) (O : Option Addr) (co : Nat), j ≤ m ∧ vi = .int .i64 j ∧ vc = .slice O out.length co ∧ Hid (out.length = i + 2 * j) ∧ Hid (OwnS wr w.heap.size (.slice O out.length co) out) ∧ Hid (Below w.heap.size w wr) ∧ Hid (out ++ slD k (L.drop j) = chgL l L k)) (fun _ vi _ => m - (intOf vi).toNat)
      case atStart => exact ⟨0, out, O, co, Nat.zero_le _, rfl, rfl, HLN1, HO, HX, HT1⟩
      case round =>
        clear HO HX HT1 HLN HLN1
        obtain ⟨j, out, O, co, hj, rfl, rfl, HLN, HO, HX, HT⟩ := hrel
        by_cases hlt2 : j < m
        · obtain ⟨b, off, s, eA, hs, hc4⟩ := (HBB.out wr HX.out).lt (k := j) (by rw [HM.out]; exact hlt2)
          have hsf := HFM.out s (List.mem_of_getElem? hs)
          subst eA
          obtain ⟨c0, c1, c2, c3⟩ := hc4
          have hd : L.drop j = s :: L.drop (j + 1) := by
            rw [List.drop_eq_getElem_cons (by rw [HM.out]; exact hlt2), (List.getElem?_eq_some_iff.1 hs).2]
          have ht := HT.out
          rw [hd] at ht
          have HT2 : Hid ((out ++ [⟨s.fm, k * s.nd⟩, ⟨s.to, -k * s.nd⟩]) ++ slD k (L.drop (j + 1)) = chgL l L k) := Lib.hid (by rw [← ht]; simp [slD])
          have hk1 : -10000 ≤ k * s.nd ∧ k * s.nd ≤ 10000 := by rcases hk with rfl | rfl <;> omega
          have hk2 : -10000 ≤ -k * s.nd ∧ -k * s.nd ≤ 10000 := by rcases hk with rfl | rfl <;> omega
          have hw1 : IntKind.i64.wrap (k * s.nd) = k * s.nd := IntWalk.i64_in _ (by omega)
          have hw0 : IntKind.i64.wrap (-k) = -k := IntWalk.i64_in _ (by rcases hk with rfl | rfl <;> omega)
          have hw2 : IntKind.i64.wrap (-k * s.nd) = -k * s.nd := IntWalk.i64_in _ (by omega)
          obtain ⟨x3, x4, x5, x6⟩ := new4 (wr.alloc (.cells #[.int .i64 s.id, .int .i64 s.fm, .int .i64 s.to, .int .i64 s.nd] 32)) (.int .i64 s.fm) (.int .i64 (k * s.nd)) (.int .i64 s.to) (.int .i64 (-k * s.nd)) 58
          rw [show (wr.alloc (.cells #[.int .i64 s.id, .int .i64 s.fm, .int .i64 s.to, .int .i64 s.nd] 32)).heap.size = wr.heap.size + 1 from by simp] at x3 x4 x5 x6
          have HXC := Lib.hid (And.intro (And.intro x3 x4) (And.intro x5 x6))
          have HB2 := Lib.hid (blw HX.out (blw (al wr (.cells #[.int .i64 s.id, .int .i64 s.fm, .int .i64 s.to, .int .i64 s.nd] 32)) (al (wr.alloc (.cells #[.int .i64 s.id, .int .i64 s.fm, .int .i64 s.to, .int .i64 s.nd] 32)) (.cells #[.int .i64 s.fm, .int .i64 (k * s.nd), .int .i64 s.to, .int .i64 (-k * s.nd)] 58))))
          have HO2 := Lib.hid (HO.out.below (blw (al wr (.cells #[.int .i64 s.id, .int .i64 s.fm, .int .i64 s.to, .int .i64 s.nd] 32)) (al (wr.alloc (.cells #[.int .i64 s.id, .int .i64 s.fm, .int .i64 s.to, .int .i64 s.nd] 32)) (.cells #[.int .i64 s.fm, .int .i64 (k * s.nd), .int .i64 s.to, .int .i64 (-k * s.nd)] 58))))
          have HLL : Hid (out.length ≤ 1000000) := Lib.hid (by have := HLN.out; omega)
          have HZ2 := Lib.hid HB2.out.size
          clear ht hs hd x3 x4 x5 x6 HT
          go_wp2_with (at_builtin; refine wpList_app2 rfl (.tmp 48) (.tmp 64) rfl w.heap.size (.slice O out.length co) out rfl HO2.out (wr.heap.size + 1) 2 ⟨s.fm, k * s.nd⟩ ⟨s.to, -k * s.nd⟩ rfl HXC.out.1.1 HXC.out.1.2 HXC.out.2.1 HXC.out.2.2 HLL.out HZ2.out ?_; intro A9 c9 w9 ho9 hg9 hb9; have HO9 := Lib.hid ho9; have HB9 := Lib.hid (HB2.out.trans hb9); clear ho9 hg9 hb9)
          refine ⟨⟨j + 1, out ++ [⟨s.fm, k * s.nd⟩, ⟨s.to, -k * s.nd⟩], A9, c9, by omega, by go_num, by simp, Lib.hid (by have := HLN.out; rw [List.length_append]; simp only [List.length_cons, List.length_nil]; omega), HO9, HB9, HT2⟩, ?_⟩
          simp [intOf]; omega
        · obtain rfl : j = m := by omega
          have hT := HT.out
          rw [show L.drop j = [] from List.drop_eq_nil_of_le (by rw [HM.out]; exact Nat.le_refl _)] at hT
          have hC : out = chgL l L k := by rw [← hT]; simp [slD]
          subst hC
          obtain ⟨nn, hnn⟩ : ∃ nn, (chgL l L k).length = nn := ⟨_, rfl⟩
          have hnb : nn = i + 2 * j := by rw [← hnn]; exact HLN.out
          have hnn0 : 0 < nn := by omega
          have hnn1 : nn ≤ 3000 := by omega
          rcases HO.out.2 with ⟨_, hz⟩ | ⟨q, cap, cur, hv, hbq, hh, h1, h2, h3, h4⟩
          · exact absurd hz (by omega)
          · injection hv with hv1 hv2 hv3
            subst hv1 hv3
            have hcur : ∀ (a : Nat) (u : Value), (flat (chgL l L k))[a]? = some u → cur[a]? = some u := fun a u ha => by
              have hi1 : a < (flat (chgL l L k)).length := (List.getElem?_eq_some_iff.1 ha).1
              rw [flat_len] at hi1
              have e' : (cur.toList.take ((chgL l L k).length * 2))[a]? = some u := by rw [h4]; exact ha
              rw [List.getElem?_take, if_pos (by omega)] at e'
              rw [← e', Array.getElem?_toList]
            have HS := Lib.hid (sortT_any (chgL l L k) q nn co hnn (by omega) wr ⟨cur, hh, hcur⟩)
            have HQ := Lib.hid (And.intro hbq (And.intro h1 h2))
            have HNN := Lib.hid hnn
            have HBD := Lib.hid (chgL_bd (l := l) (L := L) hk HFL.out fun s hs => (HFM.out s hs).2)
            rw [hnn]
            clear hT HT hcur hh h1 h2 h3 h4 hv2 hbq HO hnn hnb HLN
            go_wp2_with fail
            refine HS.out.mono ?_
            rintro e w2 ⟨rfl, X, hp, hsr, hxc, hg2⟩
            have HP := Lib.hid hp; have HSR := Lib.hid hsr
            have HXL : Hid (X.length = nn) := Lib.hid (hp.length_eq.trans HNN.out)
            have HB2 := Lib.hid (hg2.below HX.out HQ.out.1 HX.out.size)
            have HXS : Hid (Stp w2 (some ⟨q, 0, none⟩) co X) := Lib.hid ⟨fun a s ha => ⟨q, 0, rfl, by rw [Nat.zero_add]; exact (hxc a s ha).1, by rw [Nat.zero_add]; exact (hxc a s ha).2⟩, by rw [HXL.out, ← HNN.out]; exact HQ.out.2.1, HQ.out.2.2, fun e => by cases e⟩
            have HXB : Hid (∀ s ∈ X, -40000 ≤ s.fr ∧ s.fr ≤ 40000) := Lib.hid fun s hs => HBD.out s (HP.out.mem_iff.1 hs)
            clear hp hsr hxc hg2 HS
            obtain ⟨cur1, hcz1, hmk1⟩ := mk_steps nn (by omega)
            have HST1 := Lib.hid (OwnS.start (w := w2) hcz1 (by omega))
            clear hcz1 HST hmk
            go_wp2_with fail
            go_loopw [8, 13, 74] (fun vf vc vi wr => ∃ (i : Nat) (out : List StepD) (p : Int) (O : Option Addr) (co : Nat), i ≤ nn ∧ out.length ≤ i ∧ vi = .int .i64 i ∧ vf = .int .i64 p ∧ vc = .slice O out.length co ∧ (-40000 * (i : Int) ≤ p ∧ p ≤ 40000 * (i : Int)) ∧ Hid (OwnS wr w2.heap.size (.slice O out.length co) out) ∧ Hid (Below w2.heap.size w2 wr) ∧ Hid (out ++ cumL p (X.drop i) = cumL 0 X)) (fun _ _ vi _ => nn - (intOf vi).toNat)
            case atStart => exact ⟨0, [], 0, some ⟨w2.heap.size, 0, none⟩, nn, Nat.zero_le _, Nat.le_refl _, rfl, rfl, rfl, by omega, HST1, Lib.hid (al w2 _), Lib.hid rfl⟩
            case round =>
              clear HST1
              obtain ⟨i, out, p, O, co, hi, hol, rfl, rfl, rfl, hpb, HO, HX3, HT⟩ := hrel
              by_cases hlt3 : i < nn
              · obtain ⟨b, off, s, eA, hs, c0, c1⟩ := (HXS.out.below HX3.out).lt (k := i) (by rw [HXL.out]; exact hlt3)
                injection eA with eA; injection eA with e1 e2; subst e1 e2
                have hsf := HXB.out s (List.mem_of_getElem? hs)
                rw [Nat.zero_add] at c0 c1
                have hd : X.drop i = s :: X.drop (i + 1) := by
                  rw [List.drop_eq_getElem_cons (by rw [HXL.out]; exact hlt3), (List.getElem?_eq_some_iff.1 hs).2]
                have ht := HT.out
                rw [hd] at ht
                have hpw : -40000 * ((i : Int) + 1) ≤ p + s.fr ∧ p + s.fr ≤ 40000 * ((i : Int) + 1) := by omega
                obtain ⟨x3, x4⟩ := new2 wr (.int .i64 s.at_) (.int .i64 s.fr) 58
                have HB3 := Lib.hid (blw HX3.out (al wr (.cells #[.int .i64 s.at_, .int .i64 s.fr] 58)))
                have HO3 := Lib.hid (HO.out.below (al wr (.cells #[.int .i64 s.at_, .int .i64 s.fr] 58)))
                have HLL : Hid (out.length ≤ 1000000) := Lib.hid (by omega)
                have HNBX : Hid ((Value.slice O out.length co).ownBlock ≠ some wr.heap.size) := Lib.hid (fun e => by have := (HO.out.blk e).2; omega)
                by_cases hlast : i + 1 = nn
                · have hib : ((i : Int) + 1 == (nn : Int)) = true := by rw [beq_iff_eq]; omega
                  have HT2 : Hid ((out ++ [⟨s.at_, p + s.fr⟩]) ++ cumL (p + s.fr) (X.drop (i + 1)) = cumL 0 X) := Lib.hid (by
                    rw [← ht, show X.drop (i + 1) = [] from List.drop_eq_nil_of_le (by rw [HXL.out]; omega)]; simp [cumL])
                  have HL := Lib.hid hlast
                  clear ht hs hd hlast HT
                  go_wp2_with fail
                  generalize wr.alloc (.cells #[.int .i64 s.at_, .int .i64 s.fr] 58) = W3 at HB3 HO3 x3 x4 ⊢
                  generalize hbw : wr.heap.size = tb at x3 x4 HNBX ⊢
                  have HBW := Lib.hid hbw
                  clear hbw
                  go_quiet (fail)
                  have y3 := kp (drN W3 nq) x3; have y4 := kp (drN W3 nq) x4
                  have HB4 := Lib.hid (blw HB3.out (drN W3 nq)); have HO4 := Lib.hid (HO3.out.below (drN W3 nq))
                  generalize W3.drewN nq = W4 at y3 y4 HB4 HO4 ⊢
                  obtain ⟨z3, z4⟩ := new2 W4 (.int .i64 s.at_) (.int .i64 (p + s.fr)) 58
                  have HZC := Lib.hid (And.intro z3 z4)
                  have HB5 := Lib.hid (blw HB4.out (al W4 (.cells #[.int .i64 s.at_, .int .i64 (p + s.fr)] 58))); have HO5 := Lib.hid (HO4.out.below (al W4 (.cells #[.int .i64 s.at_, .int .i64 (p + s.fr)] 58)))
                  have HZ5 := Lib.hid (Nat.le_trans HB5.out.size (Nat.le_refl _))
                  clear x3 x4 z3 z4 HB3 HO3
                  go_wp2_with (at_builtin; refine wpList_app1 rfl (.tmp 99) (.tmp 104) rfl w2.heap.size (.slice O out.length co) out rfl HO5.out W4.heap.size 1 ⟨s.at_, p + s.fr⟩ rfl HZC.out.1 HZC.out.2 HLL.out HZ5.out ?_; intro A9 c9 w9 ho9 hg9 hb9; have HO9 := Lib.hid ho9; have HB9 := Lib.hid (HB5.out.trans hb9); clear ho9 hg9 hb9)
                  refine ⟨⟨i + 1, out ++ [⟨s.at_, p + s.fr⟩], p + s.fr, A9, c9, by omega, by rw [List.length_append, List.length_singleton]; omega, by go_num, rfl, by simp, hpw, HO9, HB9, HT2⟩, ?_⟩
                  simp [intOf]; omega
                · obtain ⟨b, off, u, eA, hu, c2, c3⟩ := (HXS.out.below HX3.out).lt (k := i + 1) (by rw [HXL.out]; omega)
                  injection eA with eA; injection eA with e1 e2; subst e1 e2
                  have hd2 : X.drop (i + 1) = u :: X.drop (i + 1 + 1) := by
                    rw [List.drop_eq_getElem_cons (by rw [HXL.out]; omega), (List.getElem?_eq_some_iff.1 hu).2]
                  have hib : ((i : Int) + 1 == (nn : Int)) = false := by rw [beq_eq_false_iff_ne]; omega
                  have hi1 : i + 1 < nn := by omega
                  rw [Nat.zero_add] at c2 c3
                  have c4 := kp (al wr (.cells #[.int .i64 s.at_, .int .i64 s.fr] 58)) c2
                  rw [hd2] at ht
                  by_cases hlu : s.at_ < u.at_
                  · have hdu : decide (s.at_ < u.at_) = true := decide_eq_true hlu
                    have HT2 : Hid ((out ++ [⟨s.at_, p + s.fr⟩]) ++ cumL (p + s.fr) (X.drop (i + 1)) = cumL 0 X) := Lib.hid (by
                      rw [← ht, hd2]
                      show _ = out ++ (if s.at_ < u.at_ then _ else _)
                      rw [if_pos hlu]; simp)
                    clear ht hs hu hd hd2 hlast HT c2 c3
                    go_wp2_with fail
                    generalize wr.alloc (.cells #[.int .i64 s.at_, .int .i64 s.fr] 58) = W3 at HB3 HO3 x3 x4 c4 ⊢
                    generalize hbw : wr.heap.size = tb at x3 x4 HNBX ⊢
                    have HBW := Lib.hid hbw
                    clear hbw
                    go_quiet (fail)
                    have y3 := kp (drN W3 nq) x3; have y4 := kp (drN W3 nq) x4
                    have HB4 := Lib.hid (blw HB3.out (drN W3 nq)); have HO4 := Lib.hid (HO3.out.below (drN W3 nq))
                    generalize W3.drewN nq = W4 at y3 y4 HB4 HO4 ⊢
                    obtain ⟨z3, z4⟩ := new2 W4 (.int .i64 s.at_) (.int .i64 (p + s.fr)) 58
                    have HZC := Lib.hid (And.intro z3 z4)
                    have HB5 := Lib.hid (blw HB4.out (al W4 (.cells #[.int .i64 s.at_, .int .i64 (p + s.fr)] 58))); have HO5 := Lib.hid (HO4.out.below (al W4 (.cells #[.int .i64 s.at_, .int .i64 (p + s.fr)] 58)))
                    have HZ5 := Lib.hid (Nat.le_trans HB5.out.size (Nat.le_refl _))
                    clear x3 x4 z3 z4 HB3 HO3
                    go_wp2_with (at_builtin; refine wpList_app1 rfl (.tmp 99) (.tmp 104) rfl w2.heap.size (.slice O out.length co) out rfl HO5.out W4.heap.size 1 ⟨s.at_, p + s.fr⟩ rfl HZC.out.1 HZC.out.2 HLL.out HZ5.out ?_; intro A9 c9 w9 ho9 hg9 hb9; have HO9 := Lib.hid ho9; have HB9 := Lib.hid (HB5.out.trans hb9); clear ho9 hg9 hb9)
                    refine ⟨⟨i + 1, out ++ [⟨s.at_, p + s.fr⟩], p + s.fr, A9, c9, by omega, by rw [List.length_append, List.length_singleton]; omega, by go_num, rfl, by simp, hpw, HO9, HB9, HT2⟩, ?_⟩
                    simp [intOf]; omega
                  · have hdu : decide (s.at_ < u.at_) = false := decide_eq_false hlu
                    have HT2 : Hid (out ++ cumL (p + s.fr) (X.drop (i + 1)) = cumL 0 X) := Lib.hid (by
                      rw [← ht, hd2]
                      show _ = out ++ (if s.at_ < u.at_ then _ else _)
                      rw [if_neg hlu])
                    clear ht hs hu hd hd2 hlast HT c2 c3
                    go_wp2_with fail
                    generalize wr.alloc (.cells #[.int .i64 s.at_, .int .i64 s.fr] 58) = W3 at HB3 HO3 x3 x4 c4 ⊢
                    generalize wr.heap.size = tb at x3 x4 ⊢
                    go_quiet (fail)
                    go_wp2
                    refine ⟨⟨i + 1, out, p + s.fr, O, co, by omega, by omega, by go_num, rfl, rfl, hpw, Lib.hid (HO3.out.below (drN _ _)), Lib.hid (blw HB3.out (drN _ _)), HT2⟩, ?_⟩
                    simp [intOf]; omega
              · obtain rfl : i = nn := by omega
                have hr : out = cumL 0 X := by
                  have := HT.out
                  rw [show X.drop i = [] from List.drop_eq_nil_of_le (by rw [HXL.out]; exact Nat.le_refl _)] at this
                  rw [← this]; simp [cumL]
                subst hr
                go_wp2
                go_ret
                exact ⟨_, plus_of HRI.out (fun s hs => (HFM.out s hs).1) HP.out HSR.out, O, co, rfl, HO.out.rebase HB2.out.size, HB2.out.trans (HX3.out.mono HB2.out.size)⟩
end Go.Proofs.Ytapojmniokdjfaa.Bk
/- Layer 11 in plain words: what is tidied is a profile, time by time; nodes that go out. No program. -/
namespace Go.Proofs.Ytapojmniokdjfaa.Bk
open Stp (inW val_elem prof_uniq tidy0_any head_zero)
open Srt (TidyOf IsTv NoTv tv_ex lastAt lastAt_mem)
set_option linter.unusedVariables false

theorem lastA_top : ∀ {l : List StepD} {lo : Int}, Rise lo l → ∀ s ∈ l, s.at_ ≤ lastA lo l
  | [], _, _, s, h => by cases h
  | a :: l, lo, ⟨h1, h2⟩, s, h => by
    rcases List.mem_cons.1 h with rfl | h
    · exact lastA_low h2
    · exact lastA_top h2 s h
theorem prof_of_tidy {X R : List StepD} {f : Int → Int} (h : TidyOf (-1) DD X R) (hv : ∀ t s, 0 ≤ t → IsTv X t s → s.fr = f t) (h0 : ∃ s ∈ X, s.at_ = 0) (ht : ∀ s ∈ X, s.at_ ≤ 1099511627775) (hf : ∀ t, 0 ≤ t → 0 ≤ f t ∧ f t ≤ 10000) (hn : R.length ≤ 20000) :
    Prof R ∧ ∀ t, 0 ≤ t → valF 0 R t = f t := by
  have hval : ∀ t, 0 ≤ t → valF DD R t = f t := fun t hh => by
    rcases tv_ex X t with q | ⟨s, q⟩
    · obtain ⟨s, hs, e⟩ := h0
      have := q s hs; omega
    · rw [h.val t s q, hv t s hh q]
  have hlast := h.last 1099511627776 (by decide) fun u hu => by have := ht u hu; omega
  have hp : Prof R := by
    refine ⟨hn, head_zero h.norm (by rw [hval 0 (Int.le_refl _)]; have := hf 0 (Int.le_refl _); unfold DD; omega), h.norm, fun s hs => ?_⟩
    have h1 := rise_gt h.norm.rise s hs
    have h2 := lastA_top h.norm.rise s hs
    have h3 := val_elem (d := DD) h.norm.rise hs
    rw [hval s.at_ (by omega)] at h3
    have := hf s.at_ (by omega)
    omega
  exact ⟨hp, fun t hh => by rw [hp.val hh 0 DD]; exact hval t hh⟩
/-- between steps nothing changes -/
theorem val_const : ∀ {l : List StepD} {lo d a t : Int}, Rise lo l → a ≤ t → (∀ s ∈ l, s.at_ ≤ t → s.at_ ≤ a) → valF d l t = valF d l a
  | [], _, _, _, _, _, _, _ => rfl
  | s :: l, lo, d, a, t, ⟨h1, h2⟩, hat, h => by
    by_cases c : s.at_ ≤ t
    · have := h s (by simp) c
      rw [val_cons c, val_cons this]
      exact val_const h2 hat fun u hu => h u (by simp [hu])
    · rw [val_ahead (by omega), val_ahead (by omega)]
theorem rise_tv {X : List StepD} {lo d t : Int} {s : StepD} (h : Rise lo X) (hs : IsTv X t s) : s.fr = valF d X t := by
  have hm := (lastAt_mem hs.last).1
  rw [val_const h hs.le fun u hu hut => hs.top u hu hut, val_elem h hm]
/-- fewer nodes for a while -/
def lessV (f : Int → Int) (a b k t : Int) : Int := if a ≤ t ∧ t < b then (if f t - k < 0 then 0 else f t - k) else f t
def lessS (a b k : Int) (s : StepD) : StepD := if a ≤ s.at_ ∧ s.at_ < b then ⟨s.at_, if s.fr - k < 0 then 0 else s.fr - k⟩ else s
def lessL (l : List StepD) (a b k : Int) : List StepD := l.map (lessS a b k) ++ [⟨a, lessV (valF 0 l) a b k a⟩, ⟨b, valF 0 l b⟩]
theorem less_at (a b k : Int) (s : StepD) : (lessS a b k s).at_ = s.at_ := by unfold lessS; split <;> rfl
theorem less_of {l R : List StepD} {a b k : Int} (hl : Prof l) (ha : 0 ≤ a ∧ a ≤ 1099511627775) (hb : 0 ≤ b ∧ b ≤ 1099511627775) (hab : a < b) (hk : 1 ≤ k) (hR : TidyOf (-1) DD (lessL l a b k) R) (hn : R.length ≤ 20000) :
    Prof R ∧ ∀ t, 0 ≤ t → valF 0 R t = lessV (valF 0 l) a b k t := by
  have hr := hl.rise
  have hbd : ∀ t, 0 ≤ t → 0 ≤ lessV (valF 0 l) a b k t ∧ lessV (valF 0 l) a b k t ≤ 10000 := fun t ht => by
    have := hl.bd ht
    unfold lessV
    split
    · split <;> omega
    · exact this
  have hmem : ∀ u ∈ lessL l a b k, u.fr = lessV (valF 0 l) a b k u.at_ := fun u hu => by
    rcases List.mem_append.1 hu with h | h
    · obtain ⟨s, hs, rfl⟩ := List.mem_map.1 h
      rw [less_at]
      have e := val_elem (d := 0) hr hs
      unfold lessS lessV
      rw [e]
      split <;> rfl
    · simp only [List.mem_cons, List.mem_nil_iff, or_false] at h
      rcases h with rfl | rfl
      · rfl
      · show valF 0 l b = lessV (valF 0 l) a b k b
        unfold lessV; rw [if_neg (by omega)]
  have hin : ∀ s ∈ l, ∃ u ∈ lessL l a b k, u.at_ = s.at_ := fun s hs => ⟨_, List.mem_append.2 (Or.inl (List.mem_map.2 ⟨s, hs, rfl⟩)), less_at a b k s⟩
  have hia : ∃ u ∈ lessL l a b k, u.at_ = a := ⟨_, List.mem_append.2 (Or.inr (List.mem_cons.2 (Or.inl rfl))), rfl⟩
  have hib : ∃ u ∈ lessL l a b k, u.at_ = b := ⟨_, List.mem_append.2 (Or.inr (List.mem_cons.2 (Or.inr (List.mem_cons.2 (Or.inl rfl))))), rfl⟩
  refine prof_of_tidy hR (fun t s ht hs => ?_) ?_ ?_ hbd hn
  · rw [hmem s (lastAt_mem hs.last).1]
    have e : valF 0 l t = valF 0 l s.at_ := val_const hr hs.le fun u hu hut => by
      obtain ⟨x, hx, e⟩ := hin u hu
      have := hs.top x hx (by omega); omega
    have h1 : a ≤ t → a ≤ s.at_ := fun q => by obtain ⟨x, hx, e⟩ := hia; have := hs.top x hx (by omega); omega
    have h2 : b ≤ t → b ≤ s.at_ := fun q => by obtain ⟨x, hx, e⟩ := hib; have := hs.top x hx (by omega); omega
    have hle := hs.le
    unfold lessV
    rw [e]
    by_cases c : a ≤ t ∧ t < b
    · rw [if_pos c, if_pos ⟨h1 c.1, by omega⟩]
    · rw [if_neg c, if_neg (fun q => c ⟨by omega, by have := h2; omega⟩)]
  · obtain ⟨s, r, rfl, hz⟩ := hl.zero
    obtain ⟨u, hu, e⟩ := hin s (by simp)
    exact ⟨u, hu, by omega⟩
  · intro s hs
    rcases List.mem_append.1 hs with h | h
    · obtain ⟨u, hu, rfl⟩ := List.mem_map.1 h
      rw [less_at]; exact (hl.ok u hu).1.2
    · simp only [List.mem_cons, List.mem_nil_iff, or_false] at h
      rcases h with rfl | rfl
      · exact ha.2
      · exact hb.2
theorem lessL_ok {l : List StepD} {a b k : Int} (hl : Prof l) (ha : 0 ≤ a) (hb : 0 ≤ b) (hk : 1 ≤ k) : ∀ u ∈ lessL l a b k, -1 < u.at_ ∧ u.fr ≠ DD := fun u hu => by
  have h0 : ∀ t, 0 ≤ t → 0 ≤ lessV (valF 0 l) a b k t ∧ lessV (valF 0 l) a b k t ≤ 10000 := fun t ht => by
    have := hl.bd ht
    unfold lessV
    split
    · split <;> omega
    · exact this
  rcases List.mem_append.1 hu with h | h
  · obtain ⟨s, hs, rfl⟩ := List.mem_map.1 h
    rw [less_at]
    have := hl.ok s hs
    refine ⟨by omega, ?_⟩
    unfold lessS DD
    split
    · show (if s.fr - k < 0 then (0 : Int) else s.fr - k) ≠ 1000000
      split <;> omega
    · omega
  · simp only [List.mem_cons, List.mem_nil_iff, or_false] at h
    rcases h with rfl | rfl
    · have := h0 a ha; exact ⟨by show -1 < a; omega, by show lessV _ a b k a ≠ DD; unfold DD; omega⟩
    · have := hl.bd hb; exact ⟨by show -1 < b; omega, by show valF 0 l b ≠ DD; unfold DD; omega⟩
/-- one list with so many more is tidied -/
theorem plus_prof {l R Q : List StepD} {L : List SlotD} {k : Int} (hl : Prof l) (hR : PlusR l L k R) (hQ : TidyOf (-1) DD R Q) (ht : ∀ s ∈ L, s.fm ≤ 1099511627775 ∧ s.to ≤ 1099511627775) (hv : ∀ t, 0 ≤ t → 0 ≤ valF 0 l t + takK k L t ∧ valF 0 l t + takK k L t ≤ 10000) (hn : Q.length ≤ 20000) :
    Prof Q ∧ ∀ t, 0 ≤ t → valF 0 Q t = valF 0 l t + takK k L t := by
  refine prof_of_tidy hQ (fun t s _ hs => by rw [rise_tv (d := 0) hR.rise hs, hR.val]) ?_ (fun s hs => ?_) hv hn
  · obtain ⟨s, r, rfl, hz⟩ := hl.zero
    exact (hR.at_ 0).2 (Or.inl ⟨s, by simp, hz⟩)
  · rcases (hR.at_ s.at_).1 ⟨s, hs, rfl⟩ with ⟨u, hu, e⟩ | ⟨u, hu, e⟩
    · have := (hl.ok u hu).1; omega
    · have := ht u hu; omega
theorem plus_ok {l R : List StepD} {L : List SlotD} {k : Int} (hR : PlusR l L k R) (hv : ∀ t, 0 ≤ t → valF 0 l t + takK k L t < 1000000) : ∀ u ∈ R, -1 < u.at_ ∧ u.fr ≠ DD := fun u hu => by
  have h1 := rise_gt hR.rise u hu
  have h2 := val_elem (d := 0) hR.rise hu
  rw [hR.val] at h2
  have := hv u.at_ (by omega)
  refine ⟨h1, ?_⟩
  unfold DD; omega
end Go.Proofs.Ytapojmniokdjfaa.Bk
/- Layer 11: fewer nodes for a while. -/
namespace Go.Proofs.Ytapojmniokdjfaa.Bk
open Go.RowKit Go.Shelf
open Stp (blw al dr drN kp Stp OwnS RetP flat new2 RowS OwnS.row clone_any at_any tidyA_any grown_trans)
set_option linter.unusedVariables false
set_option maxRecDepth 100000

theorem rowS_fr {w : World} {g c k : Nat} {X : List StepD} {s : StepD} (h : RowS w g c X) (hk : X[k]? = some s) (v : Int) : RowS (w.setCell ⟨g, k * 2 + 1, none⟩ (.int .i64 v)) g c (X.set k ⟨s.at_, v⟩) := by
  obtain ⟨cur, h1, h2, h3⟩ := h.blk
  have hc := h.cap
  have hl := (List.getElem?_eq_some_iff.1 hk).1
  refine ⟨⟨_, Dag.blk_set h1 (k * 2 + 1) (.int .i64 v), by simp [h2], fun i u hi => ?_⟩, by rw [List.length_set]; exact hc, h.top⟩
  by_cases q : k = i
  · subst q
    rw [List.getElem?_set_self hl] at hi
    injection hi with hi
    subst hi
    rw [Array.getElem?_setIfInBounds_ne (by omega), Array.getElem?_setIfInBounds_self_of_lt (by omega)]
    exact ⟨(h3 k s hk).1, rfl⟩
  · rw [List.getElem?_set_ne q] at hi
    rw [Array.getElem?_setIfInBounds_ne (by omega), Array.getElem?_setIfInBounds_ne (by omega)]
    exact h3 i u hi
theorem rowS_cell {w : World} {g c k : Nat} {X : List StepD} (h : RowS w g c X) (hk : k < X.length) : (∃ v, w.cell? ⟨g, k * 2 + 1, none⟩ = some (.int .i64 v)) ∧ w.frozen? ⟨g, k * 2 + 1, none⟩ = false := by
  obtain ⟨s, hs, _, h1⟩ := h.lt hk
  obtain ⟨cur, h2, _⟩ := h.blk
  exact ⟨⟨_, h1⟩, Dag.blk_frozen h2 _⟩
theorem mx0 (x : Int) : (if x < 0 then (0 : Int) else x) = max x 0 := by rw [Int.max_def]; split <;> split <;> omega
theorem set_mid {l : List StepD} {f : StepD → StepD} {i : Nat} {s u : StepD} (hs : l[i]? = some s) (hu : f s = u) : ((l.take i).map f ++ l.drop i).set i u = (l.take (i + 1)).map f ++ l.drop (i + 1) := by
  have hl := (List.getElem?_eq_some_iff.1 hs).1
  have hd : l.drop i = s :: l.drop (i + 1) := by rw [List.drop_eq_getElem_cons hl, (List.getElem?_eq_some_iff.1 hs).2]
  have h1 : ((l.take i).map f).length = i := by rw [List.length_map, List.length_take]; omega
  rw [hd, List.take_add_one, hs, Option.toList_some, List.map_append, List.set_append, if_neg (by omega), h1, Nat.sub_self]
  simp [hu]
theorem get_mid {l : List StepD} {f : StepD → StepD} {i : Nat} {s : StepD} (hs : l[i]? = some s) : ((l.take i).map f ++ l.drop i)[i]? = some s := by
  have hl := (List.getElem?_eq_some_iff.1 hs).1
  have h1 : ((l.take i).map f).length = i := by rw [List.length_map, List.length_take]; omega
  rw [List.getElem?_append_right (by omega), h1, Nat.sub_self, List.getElem?_drop, Nat.add_zero]
  exact hs
theorem skip_mid {l : List StepD} {f : StepD → StepD} {i : Nat} {s : StepD} (hs : l[i]? = some s) (hu : f s = s) : (l.take i).map f ++ l.drop i = (l.take (i + 1)).map f ++ l.drop (i + 1) := by
  have hl := (List.getElem?_eq_some_iff.1 hs).1
  have hd : l.drop i = s :: l.drop (i + 1) := by rw [List.drop_eq_getElem_cons hl, (List.getElem?_eq_some_iff.1 hs).2]
  rw [hd, List.take_add_one, hs, Option.toList_some, List.map_append]
  simp [hu]
set_option maxHeartbeats 3200000 in
theorem fewer_any (l : List StepD) (a b k : Int) (hl : Prof l) (ha : 0 ≤ a ∧ a ≤ 1099511627775) (hb : 0 ≤ b ∧ b ≤ 1099511627775) (hab : a < b) (hk : 1 ≤ k ∧ k ≤ 10000) (hn : l.length ≤ 900) (A : Option Addr) (c : Nat) (w : World) (h : Stp w A c l) :
    Calls Try.prog 44 #[.slice A l.length c, .int .i64 a, .int .i64 b, .int .i64 k] w fun e w' => ∃ R, (Prof R ∧ ∀ t, 0 ≤ t → valF 0 R t = lessV (valF 0 l) a b k t) ∧ R.length ≤ l.length + 2 ∧ RetP w.heap.size R w e w' := by
  obtain ⟨s0, r0, e0, hz0⟩ := hl.zero
  have h0 : 0 < l.length := by rw [e0]; simp
  obtain ⟨b1, o1, s1, eA, _, _, _⟩ := h.lt h0
  subst eA
  obtain ⟨n, hnn⟩ : ∃ n, l.length = n := ⟨_, rfl⟩
  rw [hnn] at hn h0
  rw [hnn]
  have HC := Lib.hid (clone_any l b1 o1 n c hnn (by omega) w h)
  have HN := Lib.hid hnn
  have HL := Lib.hid hl
  have HS := Lib.hid h
  clear h e0 hz0 hnn hl
  go_enter Try.func44, Try.ntmps44
  go_wp2_with fail
  refine HC.out.mono ?_
  rintro e w1 ⟨A1, c1, rfl, ho1, hb1⟩
  obtain ⟨g, c9, eS, hbg, hrow⟩ := OwnS.row ho1 (by rw [HN.out]; exact h0)
  injection eS with eS1 eS2 eS3
  subst eS1 eS3
  rw [HN.out]
  have HB1 := Lib.hid hb1; have HRW := Lib.hid hrow; have HBG := Lib.hid hbg
  clear ho1 hb1 hrow hbg eS2
  go_wp2_with fail
  go_loopw [18] (fun vi wr => ∃ i : Nat, i ≤ n ∧ vi = .int .i64 i ∧ Hid (RowS wr g c1 ((l.take i).map (lessS a b k) ++ l.drop i)) ∧ Hid (Below w.heap.size w wr)) (fun vi _ => n - (intOf vi).toNat)
  case atStart => exact ⟨0, Nat.zero_le _, rfl, by simpa using HRW, HB1⟩
  case round =>
    obtain ⟨i, hi, rfl, HR, HX⟩ := hrel
    by_cases hlt : i < n
    · obtain ⟨b2, o2, s, eA, hs, d0, d1⟩ := (HS.out.below HX.out).lt (k := i) (by rw [HN.out]; exact hlt)
      injection eA with eA; injection eA with e1 e2; subst e1 e2
      have hsf := HL.out.ok s (List.mem_of_getElem? hs)
      obtain ⟨x3, x4⟩ := new2 wr (.int .i64 s.at_) (.int .i64 s.fr) 58
      have HB2 := Lib.hid (blw HX.out (al wr (.cells #[.int .i64 s.at_, .int .i64 s.fr] 58)))
      have HR2 := Lib.hid (HR.out.below (al wr (.cells #[.int .i64 s.at_, .int .i64 s.fr] 58)))
      have hlen : ((l.take i).map (lessS a b k) ++ l.drop i).length = n := by rw [List.length_append, List.length_map, List.length_take, List.length_drop, HN.out]; omega
      by_cases hc : a ≤ s.at_ ∧ s.at_ < b
      · obtain ⟨hc1, hc2⟩ := hc
        obtain ⟨⟨v0, y1⟩, y2⟩ := rowS_cell HR2.out (k := i) (by rw [hlen]; exact hlt)
        have hu : lessS a b k s = ⟨s.at_, max (s.fr - k) 0⟩ := by unfold lessS; rw [if_pos ⟨hc1, hc2⟩, mx0]
        have HR3 := Lib.hid (rowS_fr HR2.out (get_mid (f := lessS a b k) hs) (max (s.fr - k) 0))
        rw [set_mid hs hu] at HR3
        have HG3 : Hid ((wr.alloc (.cells #[.int .i64 s.at_, .int .i64 s.fr] 58)).grownBy ((wr.alloc (.cells #[.int .i64 s.at_, .int .i64 s.fr] 58)).setCell ⟨g, i * 2 + 1, none⟩ (.int .i64 (max (s.fr - k) 0))) (some g)) := Lib.hid ⟨rfl, rfl, rfl, by simp [World.setCell], fun q _ hq => Below.heap_setCell _ _ _ q (fun e => hq (by rw [e]))⟩
        have HB3 := Lib.hid (HG3.out.below HB2.out HBG.out HB2.out.size)
        clear hlen hs hu
        go_wp2
        refine ⟨⟨i + 1, by omega, by go_num, HR3, HB3⟩, ?_⟩
        simp [intOf]; omega
      · have hu : lessS a b k s = s := by unfold lessS; rw [if_neg hc]
        rw [skip_mid hs hu] at HR2
        clear hlen hs hu
        by_cases hc1 : a ≤ s.at_
        · have hc2 : ¬ s.at_ < b := fun q => hc ⟨hc1, q⟩
          clear hc
          go_wp2
          refine ⟨⟨i + 1, by omega, by go_num, HR2, HB2⟩, ?_⟩
          simp [intOf]; omega
        · clear hc
          go_wp2
          refine ⟨⟨i + 1, by omega, by go_num, HR2, HB2⟩, ?_⟩
          simp [intOf]; omega
    · obtain rfl : i = n := by omega
      have hR := HR.out
      rw [show l.drop i = [] from List.drop_eq_nil_of_le (by rw [HN.out]; exact Nat.le_refl _), List.take_of_length_le (by rw [HN.out]; exact Nat.le_refl _), List.append_nil] at hR
      have HRR := Lib.hid hR
      have HAT := Lib.hid fun (t : Int) (W : World) (hW : Below w.heap.size w W) => at_any l t (some ⟨b1, o1, none⟩) i c HN.out W (HS.out.below hW)
      have ha1 : atV l a = valF 0 l a := by unfold atV; rw [if_pos ⟨chkD_prof.2 HL.out, Clk.isT_yes ha.1 ha.2⟩]
      have hb1 : atV l b = valF 0 l b := by unfold atV; rw [if_pos ⟨chkD_prof.2 HL.out, Clk.isT_yes hb.1 hb.2⟩]
      have HTA := Lib.hid (HAT.out a)
      have HTB := Lib.hid (HAT.out b)
      rw [ha1] at HTA
      rw [hb1] at HTB
      have hva := HL.out.bd ha.1
      have hvb := HL.out.bd hb.1
      obtain ⟨va, hva1⟩ : ∃ va, valF 0 l a = va := ⟨_, rfl⟩
      obtain ⟨vb, hvb1⟩ : ∃ vb, valF 0 l b = vb := ⟨_, rfl⟩
      rw [hva1] at HTA hva
      rw [hvb1] at HTB hvb
      have HVA := Lib.hid hva1; have HVB := Lib.hid hvb1
      clear hR HR ha1 hb1 HAT hva1 hvb1
      go_wp2_with fail
      refine (HTA.out _ HX.out).mono ?_
      rintro e w2 ⟨rfl, hb2⟩
      have HB2 := Lib.hid (blw HX.out hb2)
      have HR2 := Lib.hid (HRR.out.below hb2)
      clear hb2
      go_wp2_with fail
      have HB2a := Lib.hid (blw HB2.out (al w2 (.cells #[.int .i64 a, .int .i64 (max (va - k) 0)] 58)))
      refine (HTB.out _ HB2a.out).mono ?_
      rintro e w3 ⟨rfl, hb3⟩
      have HB3 := Lib.hid (blw HB2a.out hb3)
      have HR3 := Lib.hid ((HR2.out.below (al w2 (.cells #[.int .i64 a, .int .i64 (max (va - k) 0)] 58))).below hb3)
      obtain ⟨f0, f1⟩ := new2 w2 (.int .i64 a) (.int .i64 (max (va - k) 0)) 58
      have HF := Lib.hid (And.intro (kp hb3 f0) (kp hb3 f1))
      have HW2 : Hid (w2.heap.size < w3.heap.size) := Lib.hid (by have := hb3.size; simp at this; omega)
      clear hb3 f0 f1
      have HB4 := Lib.hid (blw HB3.out (al w3 (.cells #[.int .i64 b, .int .i64 vb] 58)))
      have HR4 := Lib.hid (HR3.out.below (al w3 (.cells #[.int .i64 b, .int .i64 vb] 58)))
      obtain ⟨f0, f1⟩ := HF.out
      have y0 := kp (al w3 (.cells #[.int .i64 b, .int .i64 vb] 58)) f0
      have y1 := kp (al w3 (.cells #[.int .i64 b, .int .i64 vb] 58)) f1
      obtain ⟨y2, y3⟩ := new2 w3 (.int .i64 b) (.int .i64 vb) 58
      clear f0 f1
      obtain ⟨z0, z1, z2, z3⟩ := new4 (w3.alloc (.cells #[.int .i64 b, .int .i64 vb] 58)) (.int .i64 a) (.int .i64 (max (va - k) 0)) (.int .i64 b) (.int .i64 vb) 58
      rw [show (w3.alloc (.cells #[.int .i64 b, .int .i64 vb] 58)).heap.size = w3.heap.size + 1 from by simp] at z0 z1 z2 z3
      have HZ := Lib.hid (And.intro (And.intro z0 z1) (And.intro z2 z3))
      have HB5 := Lib.hid (blw HB4.out (al (w3.alloc (.cells #[.int .i64 b, .int .i64 vb] 58)) (.cells #[.int .i64 a, .int .i64 (max (va - k) 0), .int .i64 b, .int .i64 vb] 58)))
      have hlx : (l.map (lessS a b k)).length = i := by rw [List.length_map, HN.out]
      have HO5 := (HR4.out.below (al (w3.alloc (.cells #[.int .i64 b, .int .i64 vb] 58)) (.cells #[.int .i64 a, .int .i64 (max (va - k) 0), .int .i64 b, .int .i64 vb] 58))).own HBG.out
      rw [hlx] at HO5
      have HOX := Lib.hid HO5
      have HLL : Hid ((l.map (lessS a b k)).length ≤ 1000000) := Lib.hid (by omega)
      have HZ5 := Lib.hid HB5.out.size
      have HE : Hid (l.map (lessS a b k) ++ [⟨a, max (va - k) 0⟩, ⟨b, vb⟩] = lessL l a b k) := Lib.hid (by
        unfold lessL lessV
        rw [if_pos (by omega), HVA.out, HVB.out, mx0])
      have HLX := Lib.hid hlx
      clear z0 z1 z2 z3 HO5 hlx
      go_wp2_with (at_builtin; refine wpList_app2 rfl (.tmp 56) (.tmp 59) rfl w.heap.size (.slice (some ⟨g, 0, none⟩) i c1) _ rfl HOX.out (w3.heap.size + 1) 2 ⟨a, max (va - k) 0⟩ ⟨b, vb⟩ rfl HZ.out.1.1 HZ.out.1.2 HZ.out.2.1 HZ.out.2.2 HLL.out HZ5.out ?_; intro A9 c9 w9 ho9 hg9 hb9)
      rw [HE.out] at ho9
      have HE2 : Hid ((lessL l a b k).length = i + 2) := Lib.hid (by rw [← HE.out, List.length_append, HLX.out]; rfl)
      have hs9 := ho9.stp.2
      have HTD := Lib.hid (tidyA_any (lessL l a b k) A9 (l.length + 2) c9 (by rw [HE2.out, HN.out]) (by rw [HN.out]; omega) w9 hs9)
      have HB9 := Lib.hid (HB5.out.trans hb9)
      clear ho9 hg9 hb9 hs9
      refine HTD.out.mono ?_
      rintro e w10 ⟨R, hRn, hTR, A7, c7, rfl, hoR, hbR⟩
      have HTR := Lib.hid hTR
      have HRN : Hid (R.length ≤ i + 2) := Lib.hid (by rw [HN.out] at hRn; exact hRn)
      have HOR := Lib.hid (hoR.rebase HB9.out.size)
      have HBR := Lib.hid (HB9.out.trans (hbR.mono HB9.out.size))
      clear hTR hRn hoR hbR
      go_wp2
      go_ret
      have hok := lessL_ok (k := k) HL.out ha.1 hb.1 hk.1 (a := a) (b := b)
      exact ⟨R, less_of HL.out ha hb hab hk.1 (HTR.out (-1) DD (fun u hu => (hok u hu).1) (fun u hu => (hok u hu).2)) (by have := HRN.out; omega), HRN.out, A7, c7, rfl, HOR.out, HBR.out⟩
end Go.Proofs.Ytapojmniokdjfaa.Bk

