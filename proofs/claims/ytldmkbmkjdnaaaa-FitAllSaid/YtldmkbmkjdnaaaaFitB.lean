/- Layer 10: the iterator over all windows. -/
import Derived.Test.YtldmkbmkjdnaaaaFitA
import Derived.Test.YtldmkbmkjdnaaaaFitSeq
namespace Go.Proofs.Ytldmkbmkjdnaaaa.Ft
open Go.RowKit Go.Shelf
open Stp
open Dag (wide_call)
set_option linter.unusedVariables false
set_option maxRecDepth 100000
attribute [local go_sem] Oper.semAt_some

/-- a body with a label, which no goto leaves -/
theorem wpIn_scope {F : Fence} {n : Nat} {P : Program} {c : Code} {Q : Exit → Act → World → Prop} {a : Act} {w : World} (h : c.wpIn F n P (Exit.noGoto Q) a w) : (Code.scope c).wpIn F n P Q a w := by
  intro b k cs hro hb hr
  have s1 : StepsIn (Machine.fenced P F) P (lone (b.atR a (.code (.scope c) :: k)) cs w) (lone (b.atR a (.code c :: .inScope c :: k)) cs w) :=
    .one (fenced_calm hb hr rfl) (step_lone_go (by simp [stepG, stepG.exec, Frame.atR]))
  have s2 : ∀ a' w', StepsIn (Machine.fenced P F) P (lone (b.atR a' (.inScope c :: k)) cs w') (lone (b.atR a' k) cs w') := fun a' w' =>
    .one (fenced_calm hb hr rfl) (step_lone_go (by simp [stepG, stepG.exec, Frame.atR]))
  obtain ⟨e, a', w', hq, harr⟩ := h b (.inScope c :: k) cs hro hb hr
  cases e with
  | normal => exact ⟨.normal, a', w', hq, StepsIn.trans s1 (StepsIn.trans harr (s2 a' w'))⟩
  | exit id =>
    have hx : exitTo id (.inScope c :: k) = exitTo id k := by simp [exitTo]
    exact ⟨.exit id, a', w', hq, (fun k' hk => StepsIn.trans s1 (harr.1 k' (by rw [hx]; exact hk))), fun hr' hk => let ⟨k1, q1, q2⟩ := harr.2 hr' (by rw [hx]; exact hk); ⟨k1, q1, StepsIn.trans s1 q2⟩⟩
  | goto l => exact hq.elim
  | ret => exact ⟨_, a', w', hq, .of_steps s1 harr⟩
  | panic ch => exact ⟨_, a', w', hq, .of_steps s1 harr⟩
  | outgrown => exact ⟨_, a', w', hq, .of_steps s1 harr⟩

abbrev winF (R : List StepD) (pre : List StepD) (x : StepD) (args : Array Value) (W : World) : Prop := (∃ post, R = pre ++ x :: post) ∧ args = #[.agg #[.int .i64 x.at_, .int .i64 x.fr]]
set_option maxHeartbeats 3200000 in
theorem st1_seqW (p : Nat) (l : List StepD) (A : Option Addr) (m c : Nat) (hm : l.length = m) (a b n d : Int) (ha : 0 ≤ a ∧ a ≤ 1099511627775) (hb : 0 ≤ b ∧ b ≤ 1099511627775) (hd : 0 ≤ d ∧ d ≤ 1099511627775) (hl : ∀ s ∈ l, 0 ≤ s.at_ ∧ s.at_ ≤ 1099511627775)
    (g0 g1 g2 g3 : Nat) (R : List StepD) (hR : gapF n a b d 0 l = R) (w0 : World) :
    SeqW (α := StepD) Try.prog p 60 #[.pointer (some ⟨g0, 0, none⟩), .pointer (some ⟨g2, 0, none⟩), .pointer (some ⟨g1, 0, none⟩), .pointer (some ⟨g3, 0, none⟩)] (fun s => s = R) (winF R)
      (fun W => StI W g0 g1 g2 g3 A m c a b n d ∧ Stp W A c l) w0 := by
  intro y J Jx W hW hJ hJx hK hY h0
  obtain ⟨hI, hS⟩ := hK _ _ h0
  have HK := Lib.hid hK; have HY := Lib.hid hY; have H0 := Lib.hid h0; have HM := Lib.hid hm; have HJ := Lib.hid hJ; have HJX := Lib.hid hJx; have HL := Lib.hid hl; have HR := Lib.hid hR
  have hml : m ≤ 9223372036854775807 := by rw [← hm]; exact hS.lenI
  have c0 := hI.l
  clear hW hK hY h0 hm hJ hJx hl hR hS
  refine callsIn_of_wp Try.func60 rfl trivial ?_ rfl
  simp only [Try.ntmps60, List.size_toArray, List.length_cons, List.length_nil, Nat.reduceAdd, Nat.reduceSub, Array.replicate_succ, Array.replicate_zero, List.push_toArray, List.append_toArray, List.nil_append, List.cons_append]
  refine wpIn_scope ?_
  gi_wp2_with fail
  refine wpIn_label ?_
  gi_wp2_with fail
  clear c0 hI
  gi_loopw [6, 13] (fun f i wr => ∃ (k : Nat) (q : Int) (pre : List StepD), k ≤ m ∧ i = .int .i64 k ∧ f = .int .i64 q ∧ Hid (pre ++ gapF n a b d q (l.drop k) = R) ∧ Hid (J pre wr)) (fun _ i _ => m - (intOf i).toNat)
  case atStart => exact ⟨0, 0, [], Nat.zero_le _, rfl, rfl, HR, H0⟩
  case round =>
    obtain ⟨k, q, pre, hk, rfl, rfl, HG, HJ0⟩ := hrel
    by_cases hlt : k < m
    · obtain ⟨hI, hS⟩ := HK.out _ _ HJ0.out
      obtain ⟨bb, off, s, eA, hs, c0, c1⟩ := hS.lt (k := k) (by rw [HM.out]; exact hlt)
      subst eA
      have hd0 : l.drop k = s :: l.drop (k + 1) := by rw [List.drop_eq_getElem_cons (by rw [HM.out]; exact hlt), (List.getElem?_eq_some_iff.1 hs).2]
      have hG := HG.out
      rw [hd0] at hG
      unfold gapF at hG
      have hB1 := al wr (.cells #[.int .i64 s.at_, .int .i64 s.fr] 52)
      have HI1 := Lib.hid (hI.below hB1)
      have HS1 := Lib.hid (hS.below hB1)
      obtain ⟨s0, s1⟩ := new2 wr (.int .i64 s.at_) (.int .i64 s.fr) 52
      have HB1 := Lib.hid hB1
      have k0 := HI1.out.l
      have hsb := HL.out s (List.mem_of_getElem? hs)
      have hnab : 0 ≤ nxA (l.drop (k + 1)) ∧ nxA (l.drop (k + 1)) ≤ 1099511627776 := by
        cases hl2 : l.drop (k + 1) with
        | nil => exact ⟨by show (0 : Int) ≤ 1099511627776; omega, Int.le_refl _⟩
        | cons r l2 =>
          have := HL.out r (List.mem_of_mem_drop (by rw [hl2]; simp : r ∈ l.drop (k + 1)))
          exact ⟨this.1, by show r.at_ ≤ _; omega⟩
      have hbe := behind_any l k (some ⟨bb, off, none⟩) m c HM.out hlt _ HS1.out
      obtain ⟨L, hL⟩ : ∃ L, l.drop (k + 1) = L := ⟨_, rfl⟩
      rw [hL] at hG hnab hbe
      obtain ⟨na, hna⟩ : ∃ na, nxA L = na := ⟨_, rfl⟩
      obtain ⟨nf, hnf⟩ : ∃ nf, nxF L = nf := ⟨_, rfl⟩
      rw [hna, hnf] at hG hbe
      rw [hna] at hnab
      have HGG := Lib.hid hG; have HBE := Lib.hid hbe; have HLL := Lib.hid hL; have HNF := Lib.hid hnf
      clear hI hS hs hd0 hB1 HG hG hbe hL hna hnf
      gi_wp2_with fail
      refine wide_call HBE.out ?_
      rintro e w2 ⟨rfl, hb2⟩
      have s0' := kp hb2 s0; have s1' := kp hb2 s1
      have HI2 := Lib.hid (HI1.out.below hb2); have HB2 := Lib.hid (blw HB1.out hb2)
      clear s0 s1 c0 c1 k0 hb2 HI1 HS1 HB1 HBE
      have hB3 := al w2 (.cells #[.int .i64 na, .int .i64 nf] 52)
      obtain ⟨n0, n1⟩ := new2 w2 (.int .i64 na) (.int .i64 nf) 52
      have z0 := kp hB3 s0'; have z1 := kp hB3 s1'
      have HI3 := Lib.hid (HI2.out.below hB3); have HB3 := Lib.hid (blw HB2.out hB3)
      have i0 := HI3.out.w0; have i1 := HI3.out.w1; have i2 := HI3.out.n; have i3 := HI3.out.d
      clear hB3 s0' s1' HI2 HB2
      obtain ⟨B1, hB1⟩ : ∃ B1, wr.heap.size = B1 := ⟨_, rfl⟩
      rw [hB1] at z0 z1 ⊢
      have HJ3 : Hid (J pre (w2.alloc (.cells #[.int .i64 na, .int .i64 nf] 52))) := Lib.hid (HJ.out _ _ _ HJ0.out HB3.out)
      clear hB1 HJ0 HB3
      by_cases c1 : s.fr < n
      · have hG := HGG.out
        rw [if_pos c1] at hG
        have HG2 := Lib.hid hG
        clear hG HGG
        gi_wp2_with fail
        go_roundw
        case rel => exact ⟨k + 1, na, pre, by omega, by go_num, rfl, by rw [HLL.out]; exact HG2, HJ3⟩
        case measure => simp [intOf]; omega
      · by_cases c2 : n ≤ nf
        · have hG := HGG.out
          rw [if_neg c1, if_pos c2] at hG
          have HG2 := Lib.hid hG
          clear hG HGG
          gi_wp2_with fail
          go_roundw
          case rel => exact ⟨k + 1, q, pre, by omega, by go_num, rfl, by rw [HLL.out]; exact HG2, HJ3⟩
          case measure => simp [intOf]; omega
        · have hG := HGG.out
          rw [if_neg c1, if_neg c2] at hG
          obtain ⟨X, hX⟩ : ∃ X, mxV q a = X := ⟨_, rfl⟩
          obtain ⟨M, hM⟩ : ∃ M, mnV na b = M := ⟨_, rfl⟩
          rw [hX, hM] at hG
          have hXX : (if q < a then a else q) = X := hX
          have hMM : (if b < na then b else na) = M := hM
          have hMb : -1099511627776 ≤ M ∧ M ≤ 1099511627776 := by rw [← hMM]; split <;> omega
          have w1' : IntKind.i64.wrap (M - d) = M - d := IntWalk.i64_in _ (by omega)
          have HGG2 := Lib.hid hG
          clear hG HGG hX hM
          have hB4 := al (w2.alloc (.cells #[.int .i64 na, .int .i64 nf] 52)) (.cells #[.int .i64 X, .int .i64 (M - d)] 28)
          obtain ⟨x0, x1⟩ := new2 (w2.alloc (.cells #[.int .i64 na, .int .i64 nf] 52)) (.int .i64 X) (.int .i64 (M - d)) 28
          simp only [World.size_alloc] at x0 x1
          have HJ4 : Hid (J pre ((w2.alloc (.cells #[.int .i64 na, .int .i64 nf] 52)).alloc (.cells #[.int .i64 X, .int .i64 (M - d)] 28))) := Lib.hid (HJ.out _ _ _ HJ3.out hB4)
          clear hB4
          by_cases c3 : X ≤ M - d
          · have hG := HGG2.out
            rw [if_pos c3] at hG
            have hyl := HY.out pre ⟨X, M - d⟩ #[.agg #[.int .i64 X, .int .i64 (M - d)]] _ HJ4.out ⟨⟨_, hG.symm⟩, rfl⟩
            have HG2 : Hid (pre ++ [⟨X, M - d⟩] ++ gapF n a b d q L = R) := Lib.hid (by rw [List.append_assoc]; exact hG)
            clear hG HGG2
            clear HJ4 HJ3
            obtain ⟨fn, tmps, assign, body, hy, hR⟩ := hyl
            gi_wp2_with fail
            refine ⟨(fun h => by cases h), hR.mono ?_⟩
            rintro e W5 (⟨rfl, hJ5⟩ | ⟨rfl, hJ5⟩)
            · have HJ5 := Lib.hid hJ5
              clear hJ5 hR hy
              gi_wp2_with fail
              go_roundw
              case rel => exact ⟨k + 1, q, _, by omega, by go_num, rfl, by rw [HLL.out]; exact HG2, HJ5⟩
              case measure => simp [intOf]; omega
            · have HJ5 := Lib.hid hJ5
              clear hJ5 hR hy
              gi_wp2_with fail
              simp only [Exit.noGoto]
              refine bodyPost_ret (results_none rfl _ _ _) rfl ?_
              exact ⟨⟨_, rfl⟩, Or.inr ⟨_, HJ5.out⟩⟩
          · have c3b : decide (X ≤ M - d) = false := decide_eq_false c3
            have hG := HGG2.out
            rw [if_neg c3] at hG
            have HG2 := Lib.hid hG
            clear hG HGG2
            gi_wp2_with fail
            refine ⟨(fun f h => by cases h), ?_⟩
            gi_wp2_with fail
            go_roundw
            case rel => exact ⟨k + 1, q, pre, by omega, by go_num, rfl, by rw [HLL.out]; exact HG2, HJ4⟩
            case measure => simp [intOf]; omega
    · obtain rfl : k = m := by omega
      have hG := HG.out
      rw [List.drop_eq_nil_of_le (by rw [HM.out]; exact Nat.le_refl _)] at hG
      have HG2 : Hid (pre = R) := Lib.hid (by rw [← hG]; unfold gapF; simp)
      clear hG HG
      gi_wp2_with fail
      simp only [Exit.noGoto]
      refine bodyPost_end (results_none rfl _ _ _) rfl ?_
      exact ⟨⟨_, rfl⟩, Or.inl ⟨_, rfl, by rw [← HG2.out]; exact HJ0.out⟩⟩
theorem st1_seqB (p : Nat) (l : List StepD) (A : Option Addr) (m c : Nat) (hm : l.length = m) (a b n d : Int) (ha : 0 ≤ a ∧ a ≤ 1099511627775) (hb : 0 ≤ b ∧ b ≤ 1099511627775) (hd : 0 ≤ d ∧ d ≤ 1099511627775) (hl : ∀ s ∈ l, 0 ≤ s.at_ ∧ s.at_ ≤ 1099511627775)
    (g0 g1 g2 g3 : Nat) (R : List StepD) (hR : gapF n a b d 0 l = R) (w0 : World) :
    SeqB (α := StepD) Try.prog p 60 #[.pointer (some ⟨g0, 0, none⟩), .pointer (some ⟨g2, 0, none⟩), .pointer (some ⟨g1, 0, none⟩), .pointer (some ⟨g3, 0, none⟩)] (fun s => s = R) (winF R)
      (fun W => StI W g0 g1 g2 g3 A m c a b n d ∧ Stp W A c l) w0 := (st1_seqW p l A m c hm a b n d ha hb hd hl g0 g1 g2 g3 R hR w0).toB
end Go.Proofs.Ytldmkbmkjdnaaaa.Ft

