/- Layer 11. -/
import Derived.Test.YtapojmniokdjfaaBkPlus
import Derived.Test.YtapojmniokdjfaaFitReg
import Derived.OrdersIn
import Derived.Test.YtapojmniokdjfaaBkS
import Derived.Test.YtapojmniokdjfaaFitSeq
/- Layer 11: the step that begins at a time; nodes given back. -/
namespace Go.Proofs.Ytapojmniokdjfaa.Bk
open Go.RowKit Go.Shelf
open Stp (blw al dr drN kp Stp OwnS RetP flat new2 RowS cmpV compare_any)
set_option linter.unusedVariables false
set_option maxRecDepth 100000

theorem fcmp_any (s : StepD) (t : Int) (w : World) : Calls Try.prog 83 #[.agg #[.int .i64 s.at_, .int .i64 s.fr], .int .i64 t] w fun e w' => e = .returned (.int .i64 (cmpV s.at_ t)) ∧ Below w.heap.size w w' := by
  have hx := fun (W : World) => compare_any s.at_ t W
  go_enter Try.func83, Try.ntmps83
  go_wp2_with fail
  refine (hx _).mono ?_
  rintro e w1 ⟨rfl, rfl⟩
  go_wp2
  go_ret
  exact ⟨rfl, al _ _⟩
theorem rise_lt : ∀ {l : List StepD} {lo : Int} {i j : Nat} {s u : StepD}, Rise lo l → l[i]? = some s → l[j]? = some u → i < j → s.at_ < u.at_
  | [], _, i, j, s, u, _, h, _, _ => by simp at h
  | a :: l, lo, 0, j + 1, s, u, ⟨h1, h2⟩, hs, hu, _ => by
    simp at hs; subst hs
    rw [List.getElem?_cons_succ] at hu
    exact rise_gt h2 u (List.mem_of_getElem? hu)
  | a :: l, lo, i + 1, j + 1, s, u, ⟨h1, h2⟩, hs, hu, h => by
    rw [List.getElem?_cons_succ] at hs hu
    exact rise_lt h2 hs hu (by omega)
  | a :: l, lo, i, 0, s, u, _, _, _, h => by omega
set_option maxHeartbeats 1600000 in
theorem bsearch_any (l : List StepD) (k : Nat) (u : StepD) (t : Int) (hu : l[k]? = some u) (hut : u.at_ = t) (lo : Int) (hr : Rise lo l) (A : Option Addr) (n c : Nat) (hn : l.length = n) (hnb : n ≤ 10000) (w : World) (h : Stp w A c l) :
    Calls Try.prog 82 #[.slice A n c, .int .i64 t, .func (.func 83) #[] #[]] w fun e w' => e = .returned (.tuple #[.int .i64 k, .bool true]) ∧ Below w.heap.size w w' := by
  have HFC := Lib.hid fun (s : StepD) (W : World) => fcmp_any s t W
  have hkn : k < n := by rw [← hn]; exact (List.getElem?_eq_some_iff.1 hu).1
  have HK := Lib.hid (And.intro hu hut)
  have HR := Lib.hid hr
  have HN := Lib.hid hn
  have HS := Lib.hid h
  clear hu hut hr hn h
  go_enter Try.func82, Try.ntmps82
  go_wp2_with fail
  go_loopw [9, 10] (fun vi vj wr => ∃ i j : Nat, i ≤ k ∧ k ≤ j ∧ j ≤ n ∧ vi = .int .i64 i ∧ vj = .int .i64 j ∧ Hid (j < n ∨ j = n) ∧ Hid (Below w.heap.size w wr)) (fun vi vj _ => (intOf vj).toNat - (intOf vi).toNat)
  case atStart => exact ⟨0, n, Nat.zero_le _, by omega, Nat.le_refl _, rfl, rfl, Lib.hid (Or.inr rfl), Lib.hid (Below.refl _ _)⟩
  case round =>
    obtain ⟨i, j, hik, hkj, hjn, rfl, rfl, HJ, HX⟩ := hrel
    by_cases hlt : i < j
    · have hq1 : i ≤ (i + j) / 2 := by omega
      have hq2 : (i + j) / 2 < n := by omega
      have hq3 : (i + j) / 2 < j := by omega
      obtain ⟨b, off, s, eA, hs, c0, c1⟩ := (HS.out.below HX.out).lt (k := (i + j) / 2) (by rw [HN.out]; exact hq2)
      subst eA
      have w1 : IntKind.i64.wrap ((i : Int) + (j : Int)) = ((i + j : Nat) : Int) := by rw [IntWalk.i64_in _ (by omega)]; omega
      have HFS := Lib.hid (HFC.out s)
      by_cases hc : (i + j) / 2 < k
      · have hv : cmpV s.at_ t < 0 := by
          have := rise_lt HR.out hs HK.out.1 hc
          rw [HK.out.2] at this
          unfold cmpV; rw [if_pos this]; decide
        obtain ⟨v, hve⟩ : ∃ v, cmpV s.at_ t = v := ⟨_, rfl⟩
        rw [hve] at hv HFS
        clear hs hve
        go_wp2_with fail
        refine (HFS.out _).mono ?_
        rintro e w2 ⟨rfl, hb2⟩
        have HX2 := Lib.hid (blw HX.out hb2)
        clear hb2
        go_wp2
        refine ⟨⟨(i + j) / 2 + 1, j, by omega, hkj, hjn, by go_num, rfl, HJ, HX2⟩, ?_⟩
        simp [intOf]; omega
      · have hv : ¬ cmpV s.at_ t < 0 := by
          rcases Nat.lt_or_eq_of_le (Nat.le_of_not_lt hc) with q | q
          · have := rise_lt HR.out HK.out.1 hs q
            rw [HK.out.2] at this
            unfold cmpV; rw [if_neg (by omega), if_pos this]; decide
          · rw [← q, HK.out.1] at hs
            injection hs with hs
            subst hs
            rw [HK.out.2]
            unfold cmpV; rw [if_neg (by omega), if_neg (by omega)]; decide
        obtain ⟨v, hve⟩ : ∃ v, cmpV s.at_ t = v := ⟨_, rfl⟩
        rw [hve] at hv HFS
        clear hs hve
        go_wp2_with fail
        refine (HFS.out _).mono ?_
        rintro e w2 ⟨rfl, hb2⟩
        have HX2 := Lib.hid (blw HX.out hb2)
        clear hb2
        go_wp2
        refine ⟨⟨i, (i + j) / 2, hik, by omega, by omega, rfl, by go_num, Lib.hid (by omega), HX2⟩, ?_⟩
        simp [intOf]; omega
    · obtain rfl : i = j := by omega
      obtain rfl : i = k := by omega
      obtain ⟨b, off, s, eA, hs, c0, c1⟩ := (HS.out.below HX.out).lt (k := i) (by rw [HN.out]; exact hkn)
      subst eA
      have hsu : s = u := by rw [HK.out.1] at hs; injection hs with hs; exact hs.symm
      have HFS := Lib.hid (HFC.out s)
      rw [show cmpV s.at_ t = 0 from by rw [hsu, HK.out.2]; unfold cmpV; rw [if_neg (by omega), if_neg (by omega)]] at HFS
      clear hs hsu
      go_wp2_with fail
      refine (HFS.out _).mono ?_
      rintro e w2 ⟨rfl, hb2⟩
      have HX2 := Lib.hid (blw HX.out hb2)
      clear hb2
      go_wp2
      go_ret2
      exact ⟨rfl, HX2.out⟩
theorem bfind_any (l : List StepD) (k : Nat) (u : StepD) (t : Int) (hu : l[k]? = some u) (hut : u.at_ = t) (lo : Int) (hr : Rise lo l) (A : Option Addr) (n c : Nat) (hn : l.length = n) (hnb : n ≤ 10000) (w : World) (h : Stp w A c l) :
    Calls Try.prog 63 #[.slice A n c, .int .i64 t] w fun e w' => e = .returned (.int .i64 k) ∧ Below w.heap.size w w' := by
  have HS := Lib.hid (bsearch_any l k u t hu hut lo hr A n c hn hnb w h)
  clear hu hut hr hn h
  go_enter Try.func63, Try.ntmps63
  go_wp2_with fail
  refine HS.out.mono ?_
  rintro e w1 ⟨rfl, hb1⟩
  have HB := Lib.hid hb1
  clear hb1
  go_wp2
  go_ret
  exact ⟨rfl, HB.out⟩
/-- nodes given back, from place a up to place b -/
def giveL (X : List StepD) (a b : Nat) (k : Int) : List StepD := X.mapIdx (fun j s => if a ≤ j ∧ j < b then ⟨s.at_, s.fr + k⟩ else s)
theorem giveL_get {X : List StepD} {a b : Nat} {k : Int} (j : Nat) : (giveL X a b k)[j]? = (X[j]?).map (fun s => if a ≤ j ∧ j < b then ⟨s.at_, s.fr + k⟩ else s) := by unfold giveL; rw [List.getElem?_mapIdx]
theorem giveL_len {X : List StepD} {a b : Nat} {k : Int} : (giveL X a b k).length = X.length := by unfold giveL; rw [List.length_mapIdx]
theorem giveL_0 (X : List StepD) (a : Nat) (k : Int) : giveL X a a k = X := by
  apply List.ext_getElem?
  intro j
  rw [giveL_get]
  cases X[j]? with
  | none => rfl
  | some s => simp only [Option.map_some]; rw [if_neg (by omega)]
theorem giveL_set {X : List StepD} {a i : Nat} {k : Int} {s : StepD} (hs : X[a + i]? = some s) : (giveL X a (a + i) k).set (a + i) ⟨s.at_, s.fr + k⟩ = giveL X a (a + (i + 1)) k := by
  have hl := (List.getElem?_eq_some_iff.1 hs).1
  apply List.ext_getElem?
  intro j
  by_cases e : a + i = j
  · subst e
    rw [List.getElem?_set_self (by rw [giveL_len]; exact hl), giveL_get, hs, Option.map_some, if_pos (by omega)]
  · rw [List.getElem?_set_ne e, giveL_get, giveL_get]
    cases X[j]? with
    | none => rfl
    | some u =>
      simp only [Option.map_some]
      by_cases c : a ≤ j ∧ j < a + i
      · rw [if_pos c, if_pos (by omega)]
      · rw [if_neg c, if_neg (by omega)]
set_option maxHeartbeats 1600000 in
theorem give_any (X : List StepD) (a b : Nat) (hab : a ≤ b) (hb : b ≤ X.length) (k : Int) (hk : 1 ≤ k ∧ k ≤ 10000) (hX : ∀ s ∈ X, -100000000 ≤ s.fr ∧ s.fr ≤ 100000000) (g c d : Nat) (hXn : X.length ≤ 10000) (w : World) (h : RowS w g c X) :
    Calls Try.prog 64 #[.slice (some ⟨g, a * 2, none⟩) (b - a) d, .int .i64 k] w fun e w' => e = .returned (.tuple #[]) ∧ RowS w' g c (giveL X a b k) ∧ w.grownBy w' (some g) := by
  obtain ⟨n, hn⟩ : ∃ n, b - a = n := ⟨_, rfl⟩
  rw [hn]
  have HN := Lib.hid hn
  have HX := Lib.hid hX
  have HR := Lib.hid h
  clear hX h hn
  go_enter Try.func64, Try.ntmps64
  go_wp2_with fail
  go_loopw [7] (fun vi wr => ∃ i : Nat, i ≤ n ∧ vi = .int .i64 i ∧ Hid (RowS wr g c (giveL X a (a + i) k)) ∧ Hid (w.grownBy wr (some g))) (fun vi _ => n - (intOf vi).toNat)
  case atStart => exact ⟨0, Nat.zero_le _, rfl, by rw [Nat.add_zero, giveL_0]; exact HR, Lib.hid ⟨rfl, rfl, rfl, Nat.le_refl _, fun _ _ _ => rfl⟩⟩
  case round =>
    obtain ⟨i, hi, rfl, HR1, HG⟩ := hrel
    by_cases hlt : i < n
    · have hal : a + i < X.length := by have := HN.out; omega
      obtain ⟨s, hs⟩ : ∃ s, X[a + i]? = some s := ⟨_, List.getElem?_eq_getElem hal⟩
      have hsf := HX.out s (List.mem_of_getElem? hs)
      have hgs : (giveL X a (a + i) k)[a + i]? = some s := by rw [giveL_get, hs, Option.map_some, if_neg (by omega)]
      obtain ⟨u, hu, y0, y1⟩ := HR1.out.lt (k := a + i) (by rw [giveL_len]; exact hal)
      obtain ⟨_, y2⟩ := rowS_cell HR1.out (k := a + i) (by rw [giveL_len]; exact hal)
      rw [hgs] at hu
      injection hu with hu
      subst hu
      have HR2 := rowS_fr HR1.out hgs (s.fr + k)
      rw [giveL_set hs] at HR2
      have HRS := Lib.hid HR2
      have HGS := Lib.hid (gtr HG.out (show wr.grownBy (wr.setCell ⟨g, (a + i) * 2 + 1, none⟩ (.int .i64 (s.fr + k))) (some g) from ⟨rfl, rfl, rfl, by simp [World.setCell], fun q _ hq => Below.heap_setCell _ _ _ q (fun e => hq (by rw [e]))⟩))
      have e1 : (a + i) * 2 + 1 = a * 2 + i * 2 + 1 := by omega
      rw [e1] at y1 y2 HRS HGS
      clear hs hgs HR2 e1
      go_wp2
      refine ⟨⟨i + 1, by omega, by go_num, HRS, HGS⟩, ?_⟩
      simp [intOf]; omega
    · obtain rfl : i = n := by omega
      have hR := HR1.out
      rw [show a + i = b from by have := HN.out; omega] at hR
      have HRR := Lib.hid hR
      clear hR
      go_wp2
      go_end0
      exact ⟨rfl, HRR.out, HG.out⟩
end Go.Proofs.Ytapojmniokdjfaa.Bk
/- Regions that draw their order, in a round of a range over a function, by number. No program. (As layer 7 has it, with nothing of its own.) -/
namespace Go.Proofs.Ytapojmniokdjfaa.Bk
open Go.RowKit Go.Shelf
open Ft (wpAnyR wpAny_of_R)
set_option linter.unusedVariables false
section
variable {P : Program} {ops : Array Oper} {Q : Exit → Act → World → Prop} {md : Region.Mode} {S : World → Prop} {l n : Nat}
def noDeferB (ops : Array Oper) : Bool := ops.all fun o => match o.op with
  | .defer _ => false
  | _ => true
theorem noDeferB_at {i : Nat} {o : Oper} (h : noDeferB ops = true) (hi : ops[i]? = some o) : ∀ c, o.op ≠ .defer c := by
  intro c e
  have h1 := Array.all_eq_true'.1 h o (Array.mem_of_getElem? hi)
  rw [e] at h1
  cases h1
theorem oper_in {o : Oper} {a : Act} {w : World} {K : Act → World → Prop} (hd : ∀ c, o.op ≠ .defer c) (h : o.wp P a w K Q) : o.wpIn (Fence.wide.inRound l) n P a w K Q := by
  refine ⟨fun _ _ => trivial, ?_⟩
  show o.uponIn (Fence.wide.inRound l) n P a K Q ((o.semAt (some l) a.eval).run P w)
  rw [Oper.semAt_some l a.eval o hd]
  unfold Oper.wp at h
  generalize (execOp a.eval o).run P w = r at *
  cases r with
  | ok x w' =>
    cases x with
    | value v => exact h
    | skip => exact h
    | defer d => exact h
    | enter f args => exact ⟨(fun h => by cases h), CallsIn.inRound l ((callsIn_wide.2 h).mono fun e w'' he => by cases e <;> exact he)⟩
    | row row args => exact ⟨(fun h => by cases h), fun c cs _ => let ⟨v, w', r, s⟩ := h c cs; ⟨v, w', r, stepsIn_wide.2 s⟩⟩
    | _ => exact h.elim
  | halt x w' => cases x <;> exact h
theorem wpAny_in (hd : noDeferB ops = true) (hQ : ¬ LetsOut Q) : ∀ (fuel : Nat) (listed : Array Bool) (a : Act) (w : World), wpAny P md ops Q fuel listed a w → wpAnyIn (Fence.wide.inRound l) n P md ops Q fuel listed a w
  | 0, _, _, _, h => h
  | fuel + 1, listed, a, w, h => ⟨h.1, fun i hi => by
    have h1 := h.2 i hi
    unfold wpOp at h1
    unfold wpOpIn
    cases ho : ops[i]? with
    | none => simp only [ho] at h1 ⊢; exact wpAny_in hd hQ fuel _ _ _ h1
    | some o =>
      simp only [ho] at h1 ⊢
      by_cases hw : Region.wanted o (yielded ops a.tmps) = true
      · rw [if_pos hw] at h1 ⊢
        rcases h1 with h1 | h1
        · exact Oper.wpIn_mono (fun a' w' h' => wpAny_in hd hQ fuel _ a' w' h') (oper_in (noDeferB_at hd ho) h1)
        · exact absurd h1.2 hQ
      · rw [if_neg hw] at h1 ⊢
        exact ⟨fun _ _ => trivial, wpAny_in hd hQ fuel _ _ _ h1⟩⟩
theorem wpIn_region_R {id k : Nat} {a : Act} {w : World} (S : World → Prop) (n : Nat) (hm : P.follows .mixedOrders = true) (hd : noDeferB ops = true) (hQ : ¬ LetsOut Q)
    (h : wpAnyR P .any ops Q S n ops.size (Array.replicate ops.size false) a w.drew) : (Code.region id ops true).wpIn (Fence.wide.inRound l) k P Q a w :=
  wpIn_region_any hm (wpAny_in hd hQ _ _ _ _ (wpAny_of_R _ _ _ _ h))
end
end Go.Proofs.Ytapojmniokdjfaa.Bk
/- Layer 11: reservations that have to go. -/
namespace Go.Proofs.Ytapojmniokdjfaa.Bk
open Go.RowKit Go.Shelf
open Dag (wide_call wide_call_in)
open Stp (blw al dr drN kp Stp OwnS RetP flat new2 RowS run_cut_lh cutS)
open Ft (wpAnyR_leadI wpLeadI wpLeadI_read wpLeadI_skip wpAnyR_one wpAnyR_tail)
set_option linter.unusedVariables false
set_option maxRecDepth 100000
attribute [local go_sem] Oper.semAt_some

theorem backL_any (A : Option Addr) (n c : Nat) (w : World) : Calls Try.prog 62 #[.slice A n c] w fun e w' => e = .returned (.func (.func 81) #[] #[.pointer (some ⟨w.heap.size, 0, none⟩)]) ∧ w' = w.alloc (.cells #[.slice A n c] 35) := by
  go_enter Try.func62, Try.ntmps62
  go_wp2
  go_ret
  exact ⟨rfl, rfl⟩
set_option maxHeartbeats 1600000 in
theorem backL_seqW (m : Nat) (xs : List SlotD) (n : Nat) (hn : xs.length = n) (hb : n ≤ 20000) (B : Nat) (A : Option Addr) (c : Nat) (w0 : World) :
    SeqW (α := SlotD) Try.prog m 81 #[.pointer (some ⟨B, 0, none⟩)] (fun s => s = xs.reverse) (fun pre x args W => (∃ post, xs.reverse = pre ++ x :: post) ∧ ∃ i : Int, args = #[.int .i64 i, .agg #[.int .i64 x.id, .int .i64 x.fm, .int .i64 x.to, .int .i64 x.nd]])
      (fun W => W.cell? ⟨B, 0, none⟩ = some (.slice A n c) ∧ Slt W A c xs) w0 := by
  intro l J Jx W hW hJ hJx hK hY h0
  obtain ⟨cB, hI⟩ := hK _ _ h0
  have HK := Lib.hid hK; have HY := Lib.hid hY; have H0 := Lib.hid h0; have HN := Lib.hid hn
  clear hK hY h0 hn hW hJ hJx
  have hbi : (n : Int) ≤ 20000 := by omega
  refine callsIn_of_wp Try.func81 rfl trivial ?_ rfl
  simp only [Try.ntmps81, List.size_toArray, List.length_cons, List.length_nil, Nat.reduceAdd, Nat.reduceSub, Array.replicate_succ, Array.replicate_zero, List.push_toArray, List.append_toArray, List.nil_append, List.cons_append]
  gi_wp2
  clear cB hI
  gi_loopw [3] (fun i wr => ∃ (k : Nat) (p : Int), k ≤ n ∧ i = .int .i64 p ∧ Hid (p = (k : Int) - 1) ∧ Hid (J (xs.reverse.take (n - k)) wr)) (fun i _ => (intOf i + 1).toNat)
  case atStart => exact ⟨n, _, Nat.le_refl _, rfl, Lib.hid rfl, Lib.hid (by rw [Nat.sub_self, List.take_zero]; exact H0.out)⟩
  case round =>
    obtain ⟨k, p, hk, rfl, HP, HJ⟩ := hrel
    obtain ⟨cB, hI⟩ := HK.out _ _ HJ.out
    by_cases h0 : k = 0
    · have hp : p < 0 := by have := HP.out; omega
      subst h0
      gi_wp2
      go_end0
      exact ⟨⟨_, rfl⟩, Or.inl ⟨_, rfl, by have := HJ.out; rwa [Nat.sub_zero, List.take_of_length_le (by rw [List.length_reverse, HN.out]; exact Nat.le_refl _)] at this⟩⟩
    · obtain ⟨q, rfl⟩ : ∃ q, k = q + 1 := ⟨k - 1, by omega⟩
      obtain rfl : p = (q : Int) := by have := HP.out; omega
      have hq : q < xs.length := by rw [HN.out]; omega
      obtain ⟨b, off, x, eA, hx, hc4⟩ := hI.lt hq
      obtain ⟨c0, c1, c2, c3⟩ := hc4
      have hxr : xs.reverse[n - (q + 1)]? = some x := by
        rw [List.getElem?_reverse (by rw [HN.out]; omega), ← hx, HN.out]
        congr 1; omega
      have htk : xs.reverse.take (n - q) = xs.reverse.take (n - (q + 1)) ++ [x] := by
        rw [show n - q = n - (q + 1) + 1 from by omega, List.take_add_one, hxr, Option.toList_some]
      have HTK := Lib.hid htk
      have hsp : xs.reverse = xs.reverse.take (n - (q + 1)) ++ x :: xs.reverse.drop (n - (q + 1) + 1) := by
        have h1 := List.take_append_drop (n - (q + 1)) xs.reverse
        rw [List.drop_eq_getElem_cons (List.getElem?_eq_some_iff.1 hxr).1, (List.getElem?_eq_some_iff.1 hxr).2] at h1
        exact h1.symm
      subst eA
      have hyl := HY.out (xs.reverse.take (n - (q + 1))) x #[.int .i64 (q : Int), .agg #[.int .i64 x.id, .int .i64 x.fm, .int .i64 x.to, .int .i64 x.nd]] wr HJ.out ⟨⟨_, hsp⟩, _, rfl⟩
      clear hxr htk hsp hI hx
      obtain ⟨fn, tmps, assign, body, hy, hR⟩ := hyl
      gi_wp2
      refine ⟨(fun h => by cases h), hR.mono ?_⟩
      rintro e W3 (⟨rfl, hJ3⟩ | ⟨rfl, hJx3⟩)
      · have HJ3 := Lib.hid hJ3
        clear hJ3 hR hy
        gi_wp2
        go_roundw
        case rel => exact ⟨q, _, by omega, rfl, Lib.hid (by omega), Lib.hid (by rw [HTK.out]; exact HJ3.out)⟩
        case measure => simp [intOf]
      · have HJ3 := Lib.hid hJx3
        clear hJx3 hR hy
        gi_wp2
        refine bodyPost_ret (results_none rfl _ _ _) rfl ?_
        exact ⟨⟨_, rfl⟩, Or.inr ⟨_, HJ3.out⟩⟩

/-! the plain part -/
def inS (s : SlotD) (x : StepD) : Prop := s.fm ≤ x.at_ ∧ x.at_ < s.to
instance (s : SlotD) (x : StepD) : Decidable (inS s x) := by unfold inS; exact inferInstance
def hitS (X : List StepD) (s : SlotD) : Bool := X.any (fun x => decide (inS s x) && decide (x.fr < 0))
def givS (X : List StepD) (s : SlotD) : List StepD := X.map (fun x => if inS s x then ⟨x.at_, x.fr + s.nd⟩ else x)
def relX : List StepD → List SlotD → List StepD
  | X, [] => X
  | X, s :: r => if hitS X s = true then relX (givS X s) r else relX X r
def relG : List StepD → List SlotD → List Int
  | X, [] => []
  | X, s :: r => if hitS X s = true then s.id :: relG (givS X s) r else relG X r
theorem relX_snoc : ∀ (X : List StepD) (r : List SlotD) (s : SlotD), relX X (r ++ [s]) = if hitS (relX X r) s = true then givS (relX X r) s else relX X r
  | X, [], s => rfl
  | X, a :: r, s => by
    simp only [List.cons_append, relX]
    split
    · exact relX_snoc _ r s
    · exact relX_snoc _ r s
theorem relG_snoc : ∀ (X : List StepD) (r : List SlotD) (s : SlotD), relG X (r ++ [s]) = relG X r ++ if hitS (relX X r) s = true then [s.id] else []
  | X, [], s => by simp only [List.nil_append, relG, relX]; rfl
  | X, a :: r, s => by
    simp only [List.cons_append, relX, relG]
    split
    · rw [relG_snoc _ r s]; rfl
    · exact relG_snoc _ r s
theorem givS_at (X : List StepD) (s : SlotD) : (givS X s).map (·.at_) = X.map (·.at_) := by
  unfold givS
  rw [List.map_map]
  apply List.map_congr_left
  intro x _
  simp only [Function.comp]
  split <;> rfl
theorem relX_at : ∀ (X : List StepD) (r : List SlotD), (relX X r).map (·.at_) = X.map (·.at_)
  | X, [] => rfl
  | X, s :: r => by
    simp only [relX]
    split
    · rw [relX_at _ r, givS_at]
    · exact relX_at X r
theorem rise_of_at : ∀ {X Y : List StepD} {lo : Int}, Rise lo X → Y.map (·.at_) = X.map (·.at_) → Rise lo Y
  | [], [], _, _, _ => trivial
  | [], y :: Y, _, _, e => by cases e
  | x :: X, [], _, _, e => trivial
  | x :: X, y :: Y, lo, ⟨h1, h2⟩, e => by
    simp only [List.map_cons, List.cons.injEq] at e
    refine ⟨by rw [e.1]; exact h1, rise_of_at (by rw [e.1]; exact h2) e.2⟩
theorem at_of_at {X Y : List StepD} (e : Y.map (·.at_) = X.map (·.at_)) {k : Nat} {x : StepD} (hx : X[k]? = some x) : ∃ y, Y[k]? = some y ∧ y.at_ = x.at_ := by
  have h1 : (Y.map (·.at_))[k]? = some x.at_ := by rw [e, List.getElem?_map, hx]; rfl
  rw [List.getElem?_map] at h1
  cases hy : Y[k]? with
  | none => rw [hy] at h1; cases h1
  | some y => rw [hy] at h1; injection h1 with h1; exact ⟨y, rfl, h1⟩
/-- by places, by times -/
theorem in_iff {X : List StepD} {lo : Int} {a b j : Nat} {s : SlotD} {x u v : StepD} (hr : Rise lo X) (hu : X[a]? = some u) (hut : u.at_ = s.fm) (hv : X[b]? = some v) (hvt : v.at_ = s.to) (hx : X[j]? = some x) : (a ≤ j ∧ j < b) ↔ inS s x := by
  unfold inS
  constructor
  · rintro ⟨h1, h2⟩
    refine ⟨?_, ?_⟩
    · rcases Nat.lt_or_eq_of_le h1 with q | q
      · have := rise_lt hr hu hx q; omega
      · subst q; rw [hu] at hx; injection hx with hx; subst hx; omega
    · have := rise_lt hr hx hv h2; omega
  · rintro ⟨h1, h2⟩
    refine ⟨?_, ?_⟩
    · rcases Nat.lt_or_ge j a with q | q
      · have := rise_lt hr hx hu q; omega
      · exact q
    · rcases Nat.lt_or_ge j b with q | q
      · exact q
      · rcases Nat.lt_or_eq_of_le q with q | q
        · have := rise_lt hr hv hx q; omega
        · subst q; rw [hv] at hx; injection hx with hx; subst hx; omega
theorem givS_is {X : List StepD} {lo : Int} {a b : Nat} {s : SlotD} {u v : StepD} (hr : Rise lo X) (hu : X[a]? = some u) (hut : u.at_ = s.fm) (hv : X[b]? = some v) (hvt : v.at_ = s.to) : giveL X a b s.nd = givS X s := by
  apply List.ext_getElem?
  intro j
  rw [giveL_get]
  unfold givS
  rw [List.getElem?_map]
  cases hx : X[j]? with
  | none => rfl
  | some x =>
    simp only [Option.map_some]
    by_cases c : a ≤ j ∧ j < b
    · rw [if_pos c, if_pos ((in_iff hr hu hut hv hvt hx).1 c)]
    · rw [if_neg c, if_neg (fun q => c ((in_iff hr hu hut hv hvt hx).2 q))]
theorem hit_no {X : List StepD} {lo : Int} {a b : Nat} {s : SlotD} {u v : StepD} (hr : Rise lo X) (hu : X[a]? = some u) (hut : u.at_ = s.fm) (hv : X[b]? = some v) (hvt : v.at_ = s.to) (h : ∀ j x, a ≤ j → j < b → X[j]? = some x → ¬ x.fr < 0) : hitS X s = false := by
  unfold hitS
  rw [List.any_eq_false]
  intro x hx
  obtain ⟨j, hj⟩ := List.getElem?_of_mem hx
  simp only [Bool.and_eq_true, decide_eq_true_eq]
  rintro ⟨h1, h2⟩
  obtain ⟨c1, c2⟩ := (in_iff hr hu hut hv hvt hj).2 h1
  exact h j x c1 c2 hj h2
theorem hit_yes {X : List StepD} {lo : Int} {a b j : Nat} {s : SlotD} {u v x : StepD} (hr : Rise lo X) (hu : X[a]? = some u) (hut : u.at_ = s.fm) (hv : X[b]? = some v) (hvt : v.at_ = s.to) (h1 : a ≤ j) (h2 : j < b) (hx : X[j]? = some x) (h : x.fr < 0) : hitS X s = true := by
  unfold hitS
  rw [List.any_eq_true]
  refine ⟨x, List.mem_of_getElem? hx, ?_⟩
  simp only [Bool.and_eq_true, decide_eq_true_eq]
  exact ⟨(in_iff hr hu hut hv hvt hx).1 ⟨h1, h2⟩, h⟩
theorem idx_of {X : List StepD} {a : Int} (h : ∃ s ∈ X, s.at_ = a) : ∃ (k : Nat) (u : StepD), X[k]? = some u ∧ u.at_ = a := by
  obtain ⟨s, hs, e⟩ := h
  obtain ⟨k, hk⟩ := List.getElem?_of_mem hs
  exact ⟨k, s, hk, e⟩
theorem rowS_put {w : World} {g c l : Nat} {X : List StepD} {o : Obj} (h : RowS w g c X) (hne : g ≠ l) : RowS (w.putObj l o) g c X := by
  obtain ⟨cur, h1, h2, h3⟩ := h.blk
  exact ⟨⟨cur, (World.putObj_heap_other hne).trans h1, h2, h3⟩, h.cap, h.top⟩
theorem Slt.grown {w w' : World} {A : Option Addr} {c : Nat} {l : List SlotD} {g : Nat} (h : Slt w A c l) (hg : w.grownBy w' (some g)) (hA : ∀ (k : Nat) (s : SlotD) (b off : Nat), l[k]? = some s → A = some ⟨b, off, none⟩ → b ≠ g) : Slt w' A c l := by
  refine ⟨fun k s hk => ?_, h.cap, h.top, h.nil⟩
  obtain ⟨b, off, e, h0⟩ := h.cells k s hk
  have hb : some g ≠ some b := fun q => by injection q with q; exact hA k s b off hk e q.symm
  exact ⟨b, off, e, gcell hg hb h0.id, gcell hg hb h0.fm, gcell hg hb h0.to, gcell hg hb h0.nd⟩
abbrev OwnI (w : World) (base : Nat) (v : Value) (l : List Int) : Prop := w.ownsRow base 3 1 v l.length (l.map (Value.int .i64))
theorem relG_len : ∀ (X : List StepD) (r : List SlotD), (relG X r).length ≤ r.length
  | X, [] => Nat.le_refl _
  | X, s :: r => by
    simp only [relG]
    split
    · have := relG_len (givS X s) r; simp only [List.length_cons]; omega
    · have := relG_len X r; simp only [List.length_cons]; omega
theorem cell_one_new (w : World) (x : Value) (t : TypeId) : ∀ j u, [x][j]? = some u → (w.alloc (.cells #[x] t)).cell? ((⟨w.heap.size, 0, none⟩ : Addr).add j) = some u := by
  intro j u hu
  rw [Go.WideShapes.add_plain, Nat.zero_add]
  match j, hu with
  | 0, hu => injection hu with hu; subst hu; exact (Dag.blk_cell (heap_alloc_new w (.cells #[x] t)) 0).trans rfl
  | j + 1, hu => simp at hu
theorem OwnI.below {w w' : World} {base : Nat} {v : Value} {l : List Int} (h : OwnI w base v l) (hb : Below w.heap.size w w') : OwnI w' base v l := by
  refine ⟨h.1, ?_⟩
  rcases h.2 with h0 | ⟨g, cap, cur, hv, hbg, hh, rest⟩
  · exact Or.inl h0
  · exact Or.inr ⟨g, cap, cur, hv, hbg, by rw [hb.block g (Dag.blk_lt hh)]; exact hh, rest⟩
theorem OwnI.keep {w w' : World} {base : Nat} {v : Value} {l : List Int} (h : OwnI w base v l) (hk : ∀ (k : Nat) (o : Obj), w.heap[k]? = some o → o.isCells = true → w'.heap[k]? = some o) : OwnI w' base v l := by
  refine ⟨h.1, ?_⟩
  rcases h.2 with h0 | ⟨g, cap, cur, hv, hbg, hh, rest⟩
  · exact Or.inl h0
  · exact Or.inr ⟨g, cap, cur, hv, hbg, hk _ _ hh rfl, rest⟩
theorem OwnI.rebase {w : World} {base base' : Nat} {v : Value} {l : List Int} (h : OwnI w base v l) (hb : base' ≤ base) : OwnI w base' v l := by
  refine ⟨h.1, ?_⟩
  rcases h.2 with h0 | ⟨g, cap, cur, hv, hbg, rest⟩
  · exact Or.inl h0
  · exact Or.inr ⟨g, cap, cur, hv, Nat.le_trans hb hbg, rest⟩
theorem OwnI.slice {w : World} {base : Nat} {v : Value} {l : List Int} (h : OwnI w base v l) : ∃ A c, v = .slice A l.length c := by
  rcases h.2 with ⟨hv, hn⟩ | ⟨g, cap, cur, hv, _⟩
  · exact ⟨none, 0, by rw [hv, hn]⟩
  · exact ⟨_, cap, hv⟩
theorem OwnI.cells {w : World} {base b : Nat} {v : Value} {l : List Int} (h : OwnI w base v l) (hb : v.ownBlock = some b) : ∃ cur : Array Value, w.heap[b]? = some (.cells cur 3 (0, 0)) := by
  rcases h.2 with ⟨hv, hn⟩ | ⟨g, cap, cur, hv, hbg, hh, _⟩
  · rw [hv] at hb; cases hb
  · rw [hv] at hb
    have : g = b := by simpa [Value.ownBlock] using hb
    subst this
    exact ⟨cur, hh⟩
theorem put_take {enc : Int → Value} (d : List Int) (c : Array Value) (h : d.length ≤ c.size) : (Sort.putCells enc 0 d.toArray c).toList.take d.length = d.map enc ∧ (Sort.putCells enc 0 d.toArray c).size = c.size := by
  refine ⟨?_, by simp [Sort.putCells]⟩
  apply List.ext_getElem?
  intro i
  rw [List.getElem?_take, List.getElem?_map]
  by_cases hi : i < d.length
  · rw [if_pos hi, Array.getElem?_toList]
    unfold Sort.putCells
    rw [Array.getElem?_mapIdx, Array.getElem?_eq_getElem (by omega), Option.map_some, if_pos (by simp; omega), List.getElem?_eq_getElem hi, Option.map_some, Nat.sub_zero, getElem!_pos d.toArray i (by simpa using hi)]
    simp
  · rw [if_neg hi, List.getElem?_eq_none (by omega)]; rfl
theorem rev_any (l : List Int) (A : Option Addr) (c base : Nat) (w : World) (h : OwnI w base (.slice A l.length c) l) (hl : l.length ≤ 1000000) :
    Calls Try.prog 65 #[.slice A l.length c] w fun e w' => e = .returned (.tuple #[]) ∧ OwnI w' base (.slice A l.length c) l.reverse ∧ w.grownBy w' (Value.slice A l.length c).ownBlock := by
  have hh := h
  rcases h.2 with ⟨hv, hn⟩ | ⟨g, cap, cur, hv, hbg, hc, h1, h2, h3, h4⟩
  · obtain rfl : l = [] := List.eq_nil_of_length_eq_zero hn
    injection hv with e1 _ e3
    subst e1 e3
    refine Calls.mono (show Calls Try.prog 65 _ _ _ from Any.slices_Reverse_int_empty Try.laysReverse none 0 w) ?_
    rintro e w' ⟨rfl, rfl⟩
    exact ⟨rfl, hh, ⟨rfl, rfl, rfl, Nat.le_refl _, fun _ _ _ => rfl⟩⟩
  · injection hv with e1 _ e3
    subst e1 e3
    have cell : ∀ i (hi : i < l.length), cur[i]? = some (.int .i64 l[i]) := fun i hi => by
      have e' : (cur.toList.take (l.length * 1))[i]? = some (.int .i64 l[i]) := by rw [h4, List.getElem?_map, List.getElem?_eq_getElem hi]; rfl
      rw [List.getElem?_take, if_pos (by omega)] at e'
      rw [← e', Array.getElem?_toList]
    have hH : Sort.Holds (Value.int .i64) w g 0 l.toArray := fun j hj => by
      have hj' : j < l.length := by simpa using hj
      rw [Nat.zero_add, getElem!_pos l.toArray j hj]
      refine ⟨?_, Dag.blk_frozen hc j⟩
      rw [Dag.blk_cell hc, cell j hj']; simp
    refine Calls.mono (show Calls Try.prog 65 _ _ _ from Any.slices_Reverse_int Try.laysReverse g 0 c l w hH (by omega)) ?_
    rintro e w' ⟨rfl, n, rfl⟩
    have hcs : l.reverse.length ≤ cur.size := by rw [List.length_reverse, h3]; omega
    obtain ⟨p1, p2⟩ := put_take (enc := Value.int .i64) l.reverse cur hcs
    have hg : (Sort.putRow (Value.int .i64) (Sort.ahead w n) g 0 l.reverse.toArray).heap[g]? = some (.cells (Sort.putCells (Value.int .i64) 0 l.reverse.toArray cur) 3 (0, 0)) := by
      unfold Sort.putRow Sort.mapBlock
      show ((Sort.ahead w n).heap.modify g _)[g]? = _
      rw [Array.getElem?_modify, if_pos rfl]
      show (w.heap[g]?).map _ = _
      rw [hc]; rfl
    refine ⟨rfl, ⟨by simp, Or.inr ⟨g, c, _, by simp, hbg, hg, by simpa using h1, h2, by rw [p2, h3], ?_⟩⟩, ⟨rfl, rfl, rfl, by rw [Sort.size_putRow]; exact Nat.le_refl _, fun i hi hne => ?_⟩⟩
    · rw [Nat.mul_one]; exact p1
    · unfold Sort.putRow Sort.mapBlock
      show ((Sort.ahead w n).heap.modify g _)[i]? = _
      rw [Array.getElem?_modify, if_neg (fun e => hne (by rw [← e]; rfl))]; rfl
set_option maxHeartbeats 6400000 in
theorem relieve_any (X0 : List StepD) (L : List SlotD) (hr : Rise (-1) X0) (hat : ∀ s ∈ L, (∃ x ∈ X0, x.at_ = s.fm) ∧ ∃ x ∈ X0, x.at_ = s.to) (hsl : ∀ s ∈ L, s.fm < s.to ∧ 1 ≤ s.nd ∧ s.nd ≤ 10000) (hbX : ∀ r post x, L.reverse = r ++ post → x ∈ relX X0 r → -100000000 ≤ x.fr ∧ x.fr ≤ 100000000) (g c : Nat) (B : Option Addr) (d n m : Nat) (hn : X0.length = n) (hm : L.length = m) (hnb : n ≤ 10000) (hmb : m ≤ 1000) (w : World) (hX : RowS w g c X0) (hL : Slt w B d L) (hBg : ∀ (k : Nat) (s : SlotD) (b off : Nat), L[k]? = some s → B = some ⟨b, off, none⟩ → b ≠ g) :
    Calls Try.prog 45 #[.slice (some ⟨g, 0, none⟩) n c, .slice B m d] w fun e w' => ∃ A' c', e = .returned (.slice A' (relG X0 L.reverse).length c') ∧ OwnI w' w.heap.size (.slice A' (relG X0 L.reverse).length c') (relG X0 L.reverse).reverse ∧ RowS w' g c (relX X0 L.reverse) ∧ w.grownBy w' (some g) := by
  have hgl := hX.glt
  refine (callsIn_wide (n := 3)).1 (callsIn_of_wp_marks Try.func45 rfl trivial ?_ rfl)
  simp only [Try.ntmps45, List.size_toArray, List.length_cons, List.length_nil, Nat.reduceAdd, Nat.reduceSub, Array.replicate_succ, Array.replicate_zero, List.push_toArray, List.append_toArray, List.nil_append, List.cons_append]
  refine wpIn_wide.2 ?_
  have HR0 := Lib.hid hr; have HAT := Lib.hid hat; have HSL := Lib.hid hsl; have HBX := Lib.hid hbX; have HN := Lib.hid hn; have HM := Lib.hid hm
  have HX := Lib.hid hX; have HLL := Lib.hid hL; have HBG := Lib.hid hBg; have HGL := Lib.hid hgl
  clear hr hat hsl hbX hn hm hX hL hBg hgl
  go_wp2_with fail
  refine wp_scope_straight ?_
  go_wp2_with fail
  refine wp_label ?_
  go_wp2_with fail
  refine (backL_any _ _ _ _).mono ?_
  rintro e w1 ⟨rfl, rfl⟩
  go_wp2_with fail
  have q0 := heap_alloc_new w (.cells #[.slice (some ⟨g, 0, none⟩) n c] 38)
  have q1 := heap_alloc_new (w.alloc (.cells #[.slice (some ⟨g, 0, none⟩) n c] 38)) (.cells #[.slice none 0 0] 28)
  have q2 := heap_alloc_new ((w.alloc (.cells #[.slice (some ⟨g, 0, none⟩) n c] 38)).alloc (.cells #[.slice none 0 0] 28)) (.cells #[.slice B m d] 35)
  have hbA := al w (.cells #[.slice (some ⟨g, 0, none⟩) n c] 38)
  have hbB := al (w.alloc (.cells #[.slice (some ⟨g, 0, none⟩) n c] 38)) (.cells #[.slice none 0 0] 28)
  have hbC := al ((w.alloc (.cells #[.slice (some ⟨g, 0, none⟩) n c] 38)).alloc (.cells #[.slice none 0 0] 28)) (.cells #[.slice B m d] 35)
  have q0' := (hbC.block _ (by simp; omega)).trans ((hbB.block _ (by simp)).trans q0)
  have q1' := (hbC.block _ (by simp)).trans q1
  have hb8 := blw (blw hbA hbB) hbC
  have hz8 : (((w.alloc (.cells #[.slice (some ⟨g, 0, none⟩) n c] 38)).alloc (.cells #[.slice none 0 0] 28)).alloc (.cells #[.slice B m d] 35)).heap.size = w.heap.size + 3 := by simp
  simp only [World.size_alloc] at q1' q2
  clear q0 q1 hbA hbB hbC
  generalize ((w.alloc (.cells #[.slice (some ⟨g, 0, none⟩) n c] 38)).alloc (.cells #[.slice none 0 0] 28)).alloc (.cells #[.slice B m d] 35) = W8 at q0' q1' q2 hb8 hz8 ⊢
  obtain ⟨z, hz⟩ : ∃ z, w.heap.size = z := ⟨_, rfl⟩
  rw [hz] at q0' q1' q2 hb8 hz8 ⊢
  have hgz : g < z := by rw [← hz]; exact HGL.out
  have HQ0 := Lib.hid q0'; have HQ1 := Lib.hid q1'; have HQ2 := Lib.hid q2; have HB8 := Lib.hid hb8; have HZ8 := Lib.hid hz8; have HZ := Lib.hid hz; have HGZ := Lib.hid hgz
  clear q0' q1' q2 hb8 hz8 hz hgz
  obtain ⟨INV, hINV⟩ : ∃ INV : List SlotD → World → Prop, INV = fun pre X => ∃ vo, Boxed X (z + 1) 28 vo ∧ OwnI X (z + 1) vo (relG X0 pre) ∧ X.heap[z]? = some (.cells #[.slice (some ⟨g, 0, none⟩) n c] 38 (0, 0)) ∧ X.heap[z + 1 + 1]? = some (.cells #[.slice B m d] 35 (0, 0)) ∧ RowS X g c (relX X0 pre) ∧ w.grownBy X (some g) ∧ z + 3 ≤ X.heap.size ∧ (∃ post, L.reverse = pre ++ post) := ⟨_, rfl⟩
  have HINV := Lib.hid hINV
  clear hINV
  refine (wpIn_wide (n := 3)).1 (range_seqW (α := SlotD) (gf := 81) (lb := #[.pointer (some ⟨z + 1 + 1, 0, none⟩)]) rfl (fun args w => by simp [go_sem]) (fun pre x args X h => by obtain ⟨_, i, rfl⟩ := h; rfl)
    (backL_seqW (3 - 1) L m HM.out (by omega) (z + 1 + 1) B d W8) (Below.refl _ _) (fun pre x args X Y h => h)
    INV ?oi ?oip ?ok ?h0 (fun args => Obj.cells (match args[1]?.getD undef with | Value.agg xs => xs | _ => #[]) 32)
    (fun args gs => { tmps := #[.slice (some ⟨g, 0, none⟩) n c, .slice B m d, .pointer (some ⟨z, 0, none⟩), undef, .slice none 0 0, .pointer (some ⟨z + 1, 0, none⟩), undef, .pointer (some ⟨gs, 0, none⟩), undef, undef, undef, .slice B m d, .func (.func 81) #[] #[.pointer (some ⟨z + 1 + 1, 0, none⟩)], args[0]?.getD undef, args[1]?.getD undef, undef, undef, undef, undef, undef, undef, undef, undef, undef, undef, undef, undef, undef, undef, undef, undef, undef, undef, undef, undef, undef, undef, undef, undef, undef, undef, undef, undef, undef, undef, undef, undef], defers := [] }) ?assign ?body ?done)
  case oi =>
    rw [HINV.out]
    rintro pre X Y ⟨vo, h1, h2, h3, h4, h5, h6, h7, h8⟩ hb
    exact ⟨vo, (hb.block _ h1.lt).trans h1, h2.below hb, (hb.block _ (Dag.blk_lt h3)).trans h3, (hb.block _ (Dag.blk_lt h4)).trans h4, h5.below hb, gtr h6 ⟨hb.os, hb.tape, hb.output, hb.size, fun i hi _ => hb.block i hi⟩, Nat.le_trans h7 hb.size, h8⟩
  case oip =>
    rw [HINV.out]
    rintro pre X l2 o o' ⟨vo, h1, h2, h3, h4, h5, h6, h7, h8⟩ hl ho hoc
    have hz8 := HZ8.out
    have hgz := HGZ.out
    exact ⟨vo, (World.putObj_heap_other (by omega)).trans h1, ownsRow_putObj h2 _ ho hoc, (World.putObj_heap_other (by omega)).trans h3, (World.putObj_heap_other (by omega)).trans h4, rowS_put h5 (by omega), ⟨h6.os, h6.tape, h6.output, by have := h6.size; simpa using this, fun q hq hne => (World.putObj_heap_other (by have := HZ.out; omega)).trans (h6.block q hq hne)⟩, by simpa using h7, h8⟩
  case ok =>
    rw [HINV.out]
    rintro pre X ⟨vo, h1, h2, h3, h4, h5, h6, h7, h8⟩
    have hc := Dag.blk_cell h4 0
    exact ⟨by simpa using hc, HLL.out.grown h6 HBG.out⟩
  case h0 =>
    rw [HINV.out]
    have hb8 := HB8.out
    have hz := HZ.out
    exact ⟨_, HQ1.out, World.ownsRow_nil W8 _ _ _, HQ0.out, HQ2.out, HX.out.below (by rw [hz]; exact hb8), ⟨hb8.os, hb8.tape, hb8.output, hb8.size, fun i hi _ => hb8.block i (by omega)⟩, by have := HZ8.out; omega, ⟨L.reverse, rfl⟩⟩
  case assign =>
    rintro l2 pre x args X K ⟨_, i, rfl⟩ hK
    gi_wp2
    exact hK
  case body =>
    rintro l2 pre x args X gs hinv ⟨⟨post, hpost⟩, i, rfl⟩ hgs hle
    rw [HINV.out] at hinv
    obtain ⟨vo, h1, h2, h3, h4, h5, h6, h7, h8⟩ := hinv
    have hxL : x ∈ L := List.mem_reverse.1 (by rw [hpost]; simp)
    have hpL : ∀ s ∈ pre, s ∈ L := fun s hs => List.mem_reverse.1 (by rw [hpost]; simp [hs])
    obtain ⟨X1, hX1⟩ : ∃ X1, relX X0 pre = X1 := ⟨_, rfl⟩
    have hat1 : X1.map (·.at_) = X0.map (·.at_) := by rw [← hX1]; exact relX_at X0 pre
    have hr1 : Rise (-1) X1 := rise_of_at HR0.out hat1
    have hn1 : X1.length = n := by have := congrArg List.length hat1; rw [List.length_map, List.length_map] at this; rw [this, HN.out]
    obtain ⟨lo, u0, hu0, hut0⟩ := idx_of (HAT.out x hxL).1
    obtain ⟨hi, v0, hv0, hvt0⟩ := idx_of (HAT.out x hxL).2
    obtain ⟨u, hu, hue⟩ := at_of_at hat1 hu0
    obtain ⟨v, hv, hve⟩ := at_of_at hat1 hv0
    have hut : u.at_ = x.fm := hue.trans hut0
    have hvt : v.at_ = x.to := hve.trans hvt0
    have hxs := HSL.out x hxL
    have hlh : lo < hi := by
      rcases Nat.lt_or_ge lo hi with q | q
      · exact q
      · rcases Nat.lt_or_eq_of_le q with q | q
        · have := rise_lt hr1 hv hu q; omega
        · subst q; rw [hu] at hv; injection hv with hv; subst hv; omega
    have hhn : hi < n := by rw [← hn1]; exact (List.getElem?_eq_some_iff.1 hv).1
    rw [hX1] at h5
    have hcn : n ≤ c := by rw [← hn1]; exact h5.cap
    have HPO := Lib.hid (show ∃ post, L.reverse = (pre ++ [x]) ++ post from ⟨post, by rw [hpost]; simp⟩)
    have HBD := Lib.hid fun (y : StepD) (hy : y ∈ X1) => HBX.out pre _ y hpost (by rw [hX1]; exact hy)
    have HX1 := Lib.hid hX1; have HR1 := Lib.hid hr1; have HN1 := Lib.hid hn1; have HU := Lib.hid (And.intro hu hut); have HV := Lib.hid (And.intro hv hvt)
    have hgsl : gs < X.heap.size := Dag.blk_lt hgs
    have hz8 := HZ8.out; have hgz := HGZ.out
    have HGSL : Hid (z + 3 ≤ gs) := Lib.hid (by omega)
    have HLG : Hid ((relG X0 pre).length ≤ 1000) := Lib.hid (by
      have h1 := relG_len X0 pre
      have h2 := congrArg List.length hpost
      rw [List.length_reverse, HM.out, List.length_append] at h2
      omega)
    have g0 : X.cell? ⟨gs, 0, none⟩ = some (.int .i64 x.id) := Dag.blk_cell hgs 0
    have g1 : X.cell? ⟨gs, 1, none⟩ = some (.int .i64 x.fm) := Dag.blk_cell hgs 1
    have g2 : X.cell? ⟨gs, 2, none⟩ = some (.int .i64 x.to) := Dag.blk_cell hgs 2
    have g3 : X.cell? ⟨gs, 3, none⟩ = some (.int .i64 x.nd) := Dag.blk_cell hgs 3
    have g4 : X.cell? ⟨z, 0, none⟩ = some (.slice (some ⟨g, 0, none⟩) n c) := Dag.blk_cell h3 0
    have HCL := Lib.hid fun W (hW : Below X.heap.size X W) => (show _ ∧ _ ∧ _ ∧ _ ∧ _ from ⟨kp hW g0, kp hW g1, kp hW g2, kp hW g3, kp hW g4⟩)
    have HH1 := Lib.hid h1; have HH2 := Lib.hid h2; have HH3 := Lib.hid h3; have HH4 := Lib.hid h4; have HH5 := Lib.hid h5; have HH6 := Lib.hid h6; have HH7 := Lib.hid h7
    have HFL := Lib.hid fun W (hW : Below X.heap.size X W) => bfind_any X1 lo u x.fm HU.out.1 HU.out.2 (-1) HR1.out (some ⟨g, 0, none⟩) n c HN1.out hnb W (HH5.out.below hW).stp
    have HFH := Lib.hid fun W (hW : Below X.heap.size X W) => bfind_any X1 hi v x.to HV.out.1 HV.out.2 (-1) HR1.out (some ⟨g, 0, none⟩) n c HN1.out hnb W (HH5.out.below hW).stp
    have hcut : ∀ W : World, (Instr.slice 38 (.slice (some ⟨g, 0, none⟩) n c) (some (.int .i64 (lo : Int))) (some (.int .i64 (hi : Int))) none).run Try.prog W = .ok (.slice (some ⟨g, lo * 2, none⟩) (hi - lo) (c - lo)) W := fun W => by
      have := run_cut_lh (some ⟨g, 0, none⟩) n c lo hi .i64 .i64 lo hi rfl rfl (Nat.le_of_lt hlh) (by omega) W
      rw [this]
      unfold cutS
      rw [if_neg (by omega), Option.map_some, Go.WideShapes.add_plain, Nat.zero_add]
    obtain ⟨ql, hql⟩ : ∃ ql, hi - lo = ql := ⟨_, rfl⟩
    obtain ⟨cc, hcc⟩ : ∃ cc, c - lo = cc := ⟨_, rfl⟩
    rw [hql, hcc] at hcut
    have HQL := Lib.hid hql
    have hqn : ql ≤ n := by omega
    clear hql hcc
    obtain ⟨QB, hQB⟩ : ∃ QB, QB = bodyW INV (pre ++ [x]) X := ⟨_, rfl⟩
    rw [← hQB]
    have HQB := Lib.hid hQB
    have HQO : Hid (∀ a W, ¬ QB .outgrown a W) := Lib.hid fun a W hq => by rw [hQB] at hq; exact hq
    have HQP : Hid (∀ c a W, ¬ QB (.panic c) a W) := Lib.hid fun c a W hq => by rw [hQB] at hq; exact hq
    clear hQB h1 h2 h3 h4 h5 h6 h7 h8 hpost hxL hpL hX1 hat1 hr1 hn1 hu0 hut0 hv0 hvt0 hu hv hue hve hut hvt g0 g1 g2 g3 g4 hgs hle u0 v0
    gi_wp2_with fail
    rename_i K hKK
    refine wpIn_region_R (Below X.heap.size X) 11 (by kernel_rfl) (by kernel_rfl) (fun ⟨a, W, hq⟩ => HQO.out a W hq) ?_
    refine wpAnyR_leadI (Q := Exit.then K (Exit.inBlock 1 QB)) (by kernel_rfl) (fun c a d u W hq => absurd hq (HQP.out c _ W)) ?hS [0, 1, 2, 3, 5, 6, 7] 4 _ _ (by kernel_rfl) ?_
    case hS => exact dr X
    iterate 7 (refine wpLeadI_read (v := ?_) _ rfl rfl (by rfl) ?_ ?_; rotate_left; (intro W hW; obtain ⟨q1, q2, q3, q4, q5⟩ := HCL.out W hW; go_simp; (try with_reducible rfl)); try simp only [Act.put, List.setIfInBounds_toArray, List.set_cons_succ, List.set_cons_zero])
    simp only [wpLeadI]
    refine wpAnyR_one (i := 4) rfl (by kernel_rfl) ?_
    intro K1 hK1
    go_simp
    refine (HFL.out _ (dr X)).mono ?_
    rintro e x1 ⟨rfl, hb1⟩
    have HB1 := Lib.hid (blw (dr X) hb1)
    clear hb1
    refine hK1.out _ _ HB1.out ?_
    clear hK1 K1
    try simp only [Act.put, List.setIfInBounds_toArray, List.set_cons_succ, List.set_cons_zero]
    refine wpAnyR_one (i := 8) rfl (by kernel_rfl) ?_
    intro K1 hK1
    go_simp
    refine (HFH.out _ HB1.out).mono ?_
    rintro e x2 ⟨rfl, hb2⟩
    have HB2 := Lib.hid (blw HB1.out hb2)
    clear hb2
    refine hK1.out _ _ HB2.out ?_
    clear hK1 K1
    try simp only [Act.put, List.setIfInBounds_toArray, List.set_cons_succ, List.set_cons_zero]
    refine wpAnyR_leadI (Q := Exit.then K (Exit.inBlock 1 QB)) (by kernel_rfl) (fun c a d u W hq => absurd hq (HQP.out c _ W)) ?hS2 [9, 10] 0 _ _ (by kernel_rfl) ?_
    case hS2 => exact HB2.out
    iterate 2 (refine wpLeadI_read (v := ?_) _ rfl rfl (by rfl) ?_ ?_; rotate_left; (intro W hW; obtain ⟨q1, q2, q3, q4, q5⟩ := HCL.out W hW; go_simp; (try with_reducible rfl)); try simp only [Act.put, List.setIfInBounds_toArray, List.set_cons_succ, List.set_cons_zero])
    simp only [wpLeadI]
    refine ⟨by kernel_rfl, ?_⟩
    clear HB1
    gi_wp2_with fail
    gi_loopw [27] (fun vi wr => ∃ j : Nat, j ≤ ql ∧ vi = .int .i64 j ∧ Hid (∀ (i : Nat) (y : StepD), lo ≤ i → i < lo + j → X1[i]? = some y → ¬ y.fr < 0) ∧ Hid (Below X.heap.size X wr)) (fun vi _ => ql - (intOf vi).toNat)
    case atStart => exact ⟨0, Nat.zero_le _, rfl, Lib.hid (fun i y h1 h2 _ => by omega), HB2⟩
    case round =>
      obtain ⟨j, hj, rfl, HNO, HBW⟩ := hrel
      by_cases hlt : j < ql
      · have hjl : lo + j < X1.length := by rw [HN1.out]; have := HQL.out; omega
        obtain ⟨y, hy, y0, y1⟩ := (HH5.out.below HBW.out).lt hjl
        have hyb := HBD.out y (List.mem_of_getElem? hy)
        rw [show (lo + j) * 2 = lo * 2 + j * 2 from by omega] at y0 y1
        have HB3 := Lib.hid (blw HBW.out (al wr (.cells #[.int .i64 y.at_, .int .i64 y.fr] 58)))
        obtain ⟨f0, f1⟩ := new2 wr (.int .i64 y.at_) (.int .i64 y.fr) 58
        obtain ⟨p1, p2, p3, p4, p5⟩ := HCL.out _ HB3.out
        have HY := Lib.hid hy
        clear hy hjl
        by_cases hneg : y.fr < 0
        · have HRG := Lib.hid (give_any X1 lo hi (by have := HQL.out; omega) (by rw [HN1.out]; exact Nat.le_of_lt hhn) x.nd hxs.2 HBD.out g c cc (by rw [HN1.out]; exact hnb) (wr.alloc (.cells #[.int .i64 y.at_, .int .i64 y.fr] 58)) (HH5.out.below HB3.out))
          rw [HQL.out] at HRG
          have HNEG := Lib.hid hneg
          clear p2 p3 p5
          gi_wp2_with fail
          refine ⟨trivial, CallsIn.inRound l2 ((callsIn_wide.2 HRG.out).mono ?_)⟩
          rintro e x4 ⟨rfl, hrow4, hgr4⟩
          have HR4 := Lib.hid hrow4
          rw [givS_is HR1.out HU.out.1 HU.out.2 HV.out.1 HV.out.2] at HR4
          have HG4 := Lib.hid hgr4
          have hxs4 : z + 3 ≤ x4.heap.size := Nat.le_trans HH7.out (Nat.le_trans HB3.out.size hgr4.size)
          have hb4 := Boxed.kept ((HB3.out.block _ HH1.out.lt).trans HH1.out) hgr4 (by intro e; injection e with e; omega)
          have hbl : (wr.alloc (.cells #[.int .i64 y.at_, .int .i64 y.fr] 58)).heap[z + 1 + 1]? = some (.cells #[.slice B m d] 35 (0, 0)) := (HB3.out.block _ (Dag.blk_lt HH4.out)).trans HH4.out
          have hbz : (wr.alloc (.cells #[.int .i64 y.at_, .int .i64 y.fr] 58)).heap[z]? = some (.cells #[.slice (some ⟨g, 0, none⟩) n c] 38 (0, 0)) := (HB3.out.block _ (Dag.blk_lt HH3.out)).trans HH3.out
          have hl4 : Boxed x4 (z + 1 + 1) 35 (.slice B m d) := Boxed.kept hbl hgr4 (by intro e; injection e with e; omega)
          have hz4 : x4.heap[z]? = some (.cells #[.slice (some ⟨g, 0, none⟩) n c] 38 (0, 0)) := (hgr4.block _ (Dag.blk_lt hbz) (by intro e; injection e with e; omega)).trans hbz
          have ho4 : OwnI x4 (z + 1) vo (relG X0 pre) := (HH2.out.below HB3.out).kept hgr4 (Or.inr (fun e => by have := ((HH2.out.below HB3.out).lt _ e).1; omega))
          have gg4 := gcell hgr4 (show some g ≠ some gs from by intro e; injection e with e; have := HGSL.out; omega) p1
          have HL4 := Lib.hid hl4; have HZ4 := Lib.hid hz4; have HO4 := Lib.hid ho4; have HXS := Lib.hid hxs4
          obtain ⟨i0, hi0, hii0, hii1, hii2⟩ := info_parts Dag.info_int
          have cb4 := hb4.cell
          clear hrow4 hgr4 hbl hbz hl4 hz4 hxs4
          gi_wp2_with (gi_at_builtin; refine wpListIn_append_own _ rfl _ _ 28 rfl (z + 1) 3 i0 (.int .i64 0) 1 8 Try.underlying28 hi0 hii0 hii1 hii2 rfl (by decide) _ _ _ rfl (World.ownsRow.alloc HO4.out _) ⟨x4.heap.size, 0, none⟩ 1 1 [.int .i64 x.id] rfl rfl (cell_one_new _ _ _) (by simp [Value.oneCell']) (by have := HLG.out; simp only [maxLen]; omega) (by have := HLG.out; omega) (by have := HXS.out; simp; omega) ?_; intro v' w1 hown' hgrow _; obtain ⟨g', cap', rfl⟩ := ownsRow_succ hown'; obtain ⟨hv1, hv2, hr2, hk2, hb2⟩ := hb4.appended (by decide) HO4.out (by have := HXS.out; omega) (Nat.le_refl _) hown' hgrow; have hc1 := hv1.cell; have hf1 := hv1.frozen)
          have hit : hitS X1 x = true := hit_yes HR1.out HU.out.1 HU.out.2 HV.out.1 HV.out.2 (Nat.le_add_right lo j) (by have := HQL.out; omega) HY.out HNEG.out
          rw [HQB.out]
          obtain ⟨cur4, hcur4, _⟩ := HR4.out.blk
          have hzz := HXS.out
          have hB4 : ∀ q, q < z → q ≠ g → x4.heap[q]? = w.heap[q]? := fun q h1 h2 => by
            rw [HG4.out.block q (by have := HB3.out.size; have := HH7.out; omega) (fun e => by injection e with e; exact h2 e)]
            rw [HB3.out.block q (by have := HH7.out; omega)]
            exact HH6.out.block q (by rw [HZ.out]; exact h1) (fun e => by injection e with e; exact h2 e)
          refine ⟨((show KeepsOthers X (wr.alloc (.cells #[.int .i64 y.at_, .int .i64 y.fr] 58)) from ⟨HB3.out.size, fun k o ho hoc => (HB3.out.block _ (Dag.blk_lt ho)).trans ho⟩).trans (KeepsOthers.of_grownBy HG4.out fun q o ej hj => by
            injection ej with ej
            subst ej
            obtain ⟨cur, hc, _⟩ := (HH5.out.below HB3.out).blk
            rw [hc] at hj
            injection hj with hj
            subst hj
            rfl)).trans hk2, ?_⟩
          rw [HINV.out]
          refine ⟨_, hv2, ?_, (hb2.block z (by omega)).trans HZ4.out, ?_, ?_, ⟨?_, ?_, ?_, ?_, ?_⟩, ?_, HPO.out⟩
          · rw [relG_snoc, HX1.out, hit, if_pos rfl]
            unfold OwnI
            rw [List.length_append, List.map_append]
            exact hr2
          · have h1 := Boxed.kept (Boxed.alloc HL4.out (.cells #[.int .i64 x.id] 3)) hgrow (Boxed.not_row HL4.out (by decide) HO4.out)
            exact (Below.heap_setCell _ _ _ _ (by simp)).trans h1
          · rw [relX_snoc, HX1.out, hit, if_pos rfl]
            have hR4 := HR4.out
            obtain ⟨cur, e1, e2, e3⟩ := hR4.blk
            exact ⟨⟨cur, (hb2.block g (by omega)).trans e1, e2, e3⟩, hR4.cap, hR4.top⟩
          · exact hb2.os.trans (HG4.out.os.trans (HB3.out.os.trans HH6.out.os))
          · exact hb2.tape.trans (HG4.out.tape.trans (HB3.out.tape.trans HH6.out.tape))
          · exact hb2.output.trans (HG4.out.output.trans (HB3.out.output.trans HH6.out.output))
          · exact Nat.le_trans HH6.out.size (Nat.le_trans HB3.out.size (Nat.le_trans HG4.out.size hb2.size))
          · exact fun q hq hne => (hb2.block q (by have := HZ.out; omega)).trans (hB4 q (by have := HZ.out; omega) (fun e => hne (by rw [e])))
          · exact Nat.le_trans hzz hb2.size
        · have HNO1 : Hid (∀ (i : Nat) (y : StepD), lo ≤ i → i < lo + (j + 1) → X1[i]? = some y → ¬ y.fr < 0) := Lib.hid fun i u h1 h2 hu => by
            by_cases e : i = lo + j
            · subst e; rw [HY.out] at hu; injection hu with hu; subst hu; exact hneg
            · exact HNO.out i u h1 (by omega) hu
          clear p1 p2 p3 p4 p5
          gi_wp2_with fail
          refine ⟨⟨j + 1, by omega, by go_num, HNO1, HB3⟩, ?_⟩
          simp [intOf]; omega
      · obtain rfl : j = ql := by omega
        have hno : hitS X1 x = false := hit_no HR1.out HU.out.1 HU.out.2 HV.out.1 HV.out.2 fun i y h1 h2 hy => HNO.out i y h1 (by have := HQL.out; omega) hy
        have HHN := Lib.hid hno
        clear hno
        gi_wp2_with fail
        rw [HQB.out]
        have hb := HBW.out
        refine ⟨⟨hb.size, fun k o ho hoc => (hb.block _ (Dag.blk_lt ho)).trans ho⟩, ?_⟩
        rw [HINV.out]
        refine ⟨vo, (hb.block _ HH1.out.lt).trans HH1.out, ?_, (hb.block _ (Dag.blk_lt HH3.out)).trans HH3.out, (hb.block _ (Dag.blk_lt HH4.out)).trans HH4.out, ?_, gtr HH6.out ⟨hb.os, hb.tape, hb.output, hb.size, fun q hq _ => hb.block q hq⟩, Nat.le_trans HH7.out hb.size, HPO.out⟩
        · rw [relG_snoc, HX1.out, HHN.out, if_neg (by decide), List.append_nil]; exact HH2.out.below hb
        · rw [relX_snoc, HX1.out, HHN.out, if_neg (by decide)]; exact HH5.out.below hb
  case done =>
    rintro D pre X hD hS hinv hdef
    subst hS
    rw [HINV.out] at hinv
    obtain ⟨vo, h1, h2, h3, h4, h5, h6, h7, h8⟩ := hinv
    have cb := h1.cell
    have HDF := Lib.hid hdef
    have HNR : Hid (some (z + 1) ≠ vo.ownBlock) := Lib.hid (h1.not_row (by decide) h2)
    have HR5 := Lib.hid h5; have HG6 := Lib.hid h6; have HO2 := Lib.hid h2; have HZ7 := Lib.hid h7
    clear h1 h2 h3 h4 h5 h6 h7 h8 hdef
    obtain ⟨A9, c9, rfl⟩ := OwnI.slice HO2.out
    have HRV := Lib.hid (rev_any (relG X0 L.reverse) A9 c9 (z + 1) X HO2.out (by have := relG_len X0 L.reverse; rw [List.length_reverse, HM.out] at this; omega))
    go_wp2_with fail
    refine HRV.out.mono ?_
    rintro e X2 ⟨rfl, ho2, hg2⟩
    have hdf2 : X2.heap[D]? = some (.deferred (some [])) := (hg2.block D (Dag.blk_lt HDF.out) (fun e => by
      obtain ⟨cur, hc⟩ := OwnI.cells HO2.out e.symm
      rw [HDF.out] at hc; cases hc)).trans HDF.out
    have hown : ∀ b, (Value.slice A9 (relG X0 L.reverse).length c9).ownBlock = some b → z + 1 ≤ b := fun b hb => (HO2.out.lt b hb).1
    have cb2 : X2.cell? ⟨z + 1, 0, none⟩ = some (.slice A9 (relG X0 L.reverse).length c9) := gcell hg2 (fun e => HNR.out e.symm) cb
    have hlow : ∀ k, k < z + 1 → X2.heap[k]? = X.heap[k]? := fun k hk => hg2.block k (by have := HZ7.out; omega) (fun e => by have := hown k e.symm; omega)
    have HLW := Lib.hid hlow; have HDF2 := Lib.hid hdf2; have HO3 := Lib.hid ho2; have HG2 := Lib.hid hg2
    clear hdf2 hown hlow ho2 hg2 cb
    go_wp2_with fail
    simp only [Exit.noGoto]
    refine leaves_marksB (base := z) [D] X2 ⟨List.nodup_cons.2 ⟨by simp, List.nodup_nil⟩, fun D' hD' => by obtain rfl := List.mem_singleton.1 hD'; exact HDF2.out⟩ (fun D' hD' => by obtain rfl := List.mem_singleton.1 hD'; have := HZ8.out; omega) fun W' hB' hk hsz => ?_
    have hr2 : OwnI W' (z + 1) (.slice A9 (relG X0 L.reverse).length c9) (relG X0 L.reverse).reverse := OwnI.keep HO3.out fun k o ho hoc => (hk k (fun D' hD' e => by
      obtain rfl := List.mem_singleton.1 hD'
      subst e
      rw [HDF2.out] at ho; injection ho with ho; subst ho; cases hoc)).trans ho
    refine ⟨_, results_tmp rfl _ _ _, A9, c9, rfl, ?_, ?_, ⟨?_, ?_, ?_, ?_, ?_⟩⟩
    · exact OwnI.rebase hr2 (by have := HZ.out; omega)
    · have hR4 := HR5.out
      obtain ⟨cur, e1, e2, e3⟩ := hR4.blk
      have hgz := HGZ.out
      exact ⟨⟨cur, (hB'.block g hgz).trans ((HLW.out g (by omega)).trans e1), e2, e3⟩, hR4.cap, hR4.top⟩
    · exact hB'.os.trans (HG2.out.os.trans HG6.out.os)
    · exact hB'.tape.trans (HG2.out.tape.trans HG6.out.tape)
    · exact hB'.output.trans (HG2.out.output.trans HG6.out.output)
    · exact Nat.le_trans HG6.out.size (Nat.le_trans HG2.out.size hB'.size)
    · exact fun q hq hne => by
        have hz := HZ.out
        exact (hB'.block q (by omega)).trans ((HLW.out q (by omega)).trans (HG6.out.block q hq hne))
end Go.Proofs.Ytapojmniokdjfaa.Bk

