/- Layer 13: slices.DeleteFunc with the closures of Ready and Fail. -/
import Derived.Test.YtgejonmjmieglaaDoorLifG
import Derived.Laws.IdiomCopy
import Derived.Lib.SliceRun
namespace Go.Proofs.YtgejonmjmieglaaDoor.Lf
open Go.RowKit
open Dag (Ints IRows Own1 OwnI Sl ints num info_int info_is arc Plus)
set_option linter.unusedVariables false
set_option maxRecDepth 100000

theorem ix_spec (P : Int → Bool) (l : List Int) : (ixP P l = -1 ∧ ∀ x ∈ l, P x = false) ∨ ∃ (k : Nat) (x : Int), ixP P l = (k : Int) ∧ k < l.length ∧ l[k]? = some x ∧ P x = true ∧ ∀ j t, j < k → l[j]? = some t → P t = false := by
  unfold ixP
  by_cases h : l.findIdx P < l.length
  · right
    refine ⟨l.findIdx P, l[l.findIdx P], if_pos h, h, List.getElem?_eq_getElem h, List.findIdx_getElem (w := h), fun j t hj ht => ?_⟩
    obtain ⟨hjl, e⟩ := List.getElem?_eq_some_iff.1 ht
    have := List.not_of_lt_findIdx hj
    rw [← e]; simpa using this
  · left
    refine ⟨if_neg h, fun x hx => ?_⟩
    cases hp : P x
    · rfl
    · exact absurd (List.findIdx_lt_length.2 ⟨x, hx, hp⟩) h
theorem filter_take_all {P : Int → Bool} {l : List Int} {k : Nat} (h : ∀ j t, j < k → l[j]? = some t → P t = false) : (l.take k).filter (fun x => !P x) = l.take k := by
  rw [List.filter_eq_self]
  intro x hx
  obtain ⟨j, hj⟩ := List.mem_iff_getElem?.1 hx
  rw [List.getElem?_take] at hj
  split at hj
  · rename_i hjk; rw [h j x hjk hj]; rfl
  · cases hj
theorem filter_take_next {P : Int → Bool} {l : List Int} {k : Nat} {x : Int} (h : l[k]? = some x) : (l.take (k + 1)).filter (fun x => !P x) = (l.take k).filter (fun x => !P x) ++ if P x = true then [] else [x] := by
  rw [List.take_add_one, h, Option.toList_some, List.filter_append]
  congr 1
  cases hp : P x <;> simp [hp]
theorem take_set_next {Z : List Int} {p : Nat} {v : Int} (hp : p < Z.length) : (Z.set p v).take (p + 1) = Z.take p ++ [v] := by
  rw [List.take_add_one, List.getElem?_set, if_pos rfl, if_pos hp, Option.toList_some, List.take_set_of_le (Nat.le_refl _)]
theorem drop_set_next {Z : List Int} {p q : Nat} {v : Int} (h : p < q) : (Z.set p v).drop q = Z.drop q := by
  rw [List.drop_set_of_lt h]
theorem drop_get {Z l : List Int} {q : Nat} {x : Int} (h : Z.drop q = l.drop q) (hx : l[q]? = some x) : Z[q]? = some x ∧ Z.drop (q + 1) = l.drop (q + 1) := by
  have h1 : (Z.drop q)[0]? = (l.drop q)[0]? := by rw [h]
  rw [List.getElem?_drop, List.getElem?_drop] at h1
  refine ⟨by simpa [hx] using h1, ?_⟩
  have h2 : (Z.drop q).drop 1 = (l.drop q).drop 1 := by rw [h]
  rwa [List.drop_drop, List.drop_drop] at h2
theorem below_setCells_ {B g : Nat} {a : World} (hg : B ≤ g) : ∀ (vs : List Value) (o : Nat) {w : World}, Below B a w → Below B a (w.setCells g o vs)
  | [], _, _, h => h
  | v :: vs, o, w, h => below_setCells_ hg vs (o + 1) (h.setCell (p := ⟨g, o, none⟩) hg v)

set_option maxHeartbeats 1600000 in
theorem delR_ix (bf bx : Nat) (P : Int → Bool) (l : List Int) (k : Nat) (hk : l.length = k) (w : World) (A : Option Addr) (c : Nat) (h : Ints w A c l) (CC0 : ∀ W, Below w.heap.size w W → ∀ x ∈ l, Calls Tryd.prog 42 #[.int .i64 x, .pointer (some ⟨bf, 0, none⟩), .pointer (some ⟨bx, 0, none⟩)] W fun e w' => e = .returned (.bool (P x)) ∧ Below W.heap.size W w') :
    Calls Tryd.prog 68 #[.slice A k c, .func (.func 42) #[] #[.pointer (some ⟨bf, 0, none⟩), .pointer (some ⟨bx, 0, none⟩)]] w fun e w' => e = .returned (.int .i64 (ixP P l)) ∧ Below w.heap.size w w' := by
  have hlm : k ≤ 9223372036854775807 := by rw [← hk]; exact ints_top h
  have CC := Lib.hid (show ∀ W (hW : Below w.heap.size w W) (x : Int) (hx : x ∈ l), Calls Tryd.prog 42 #[.int .i64 x, .pointer (some ⟨bf, 0, none⟩), .pointer (some ⟨bx, 0, none⟩)] W fun e w' => e = .returned (.bool (P x)) ∧ Below W.heap.size W w' from fun W hW x hx => CC0 W hW x hx)
  have H := Lib.hid h
  have HK := Lib.hid hk
  clear h hk CC0
  go_enter Tryd.func68, Tryd.ntmps68
  go_wp2
  go_loopw [8] (fun i wr => ∃ j : Nat, j ≤ k ∧ i = .int .i64 j ∧ Hid (Below w.heap.size w wr) ∧ Hid (∀ q t, q < j → l[q]? = some t → P t = false)) (fun i _ => k - (intOf i).toNat)
  case atStart => exact ⟨0, Nat.zero_le _, rfl, Lib.hid (Below.refl _ _), Lib.hid fun q t hq => by omega⟩
  case round =>
    obtain ⟨j, hj, rfl, HB, HI⟩ := hrel
    by_cases hlt : j < k
    · obtain ⟨b, off, s, rfl, hx, hc⟩ := (H.out.below HB.out).at_ (k := j) (by rw [HK.out]; exact hlt)
      cases hp : P s
      · have HN := Lib.hid (show ∀ q t, q < j + 1 → l[q]? = some t → P t = false from fun q t hq ht => by
          rcases Nat.lt_or_ge q j with h | h
          · exact HI.out q t h ht
          · obtain rfl : q = j := by omega
            rw [hx] at ht; injection ht with ht; subst ht; exact hp)
        have C1 := Lib.hid (CC.out _ HB.out s (List.mem_of_getElem? hx))
        clear hx
        go_wp2_with fail
        refine C1.out.mono ?_
        rintro e w1 ⟨rfl, hb1⟩
        rw [hp]
        have HB1 := Lib.hid (blw HB.out hb1)
        clear hp hb1
        go_wp2
        go_roundw
        case rel => exact ⟨j + 1, by omega, by go_num, HB1, HN⟩
        case measure => simp [intOf]; omega
      · have HN := Lib.hid (ix_hit hx hp HI.out)
        have C1 := Lib.hid (CC.out _ HB.out s (List.mem_of_getElem? hx))
        clear hx
        go_wp2_with fail
        refine C1.out.mono ?_
        rintro e w1 ⟨rfl, hb1⟩
        rw [hp]
        have HB1 := Lib.hid (blw HB.out hb1)
        clear hp hb1
        go_wp2
        go_ret
        exact ⟨by rw [HN.out]; rfl, HB1.out⟩
    · have HN := Lib.hid (ix_miss (p := P) (l := l) (fun q t hq ht => HI.out q t (by have := HK.out; omega) ht))
      obtain rfl : j = k := by omega
      go_wp2
      go_ret
      exact ⟨by rw [HN.out]; rfl, HB.out⟩

set_option maxHeartbeats 3200000 in
theorem delR (bf bx : Nat) (P : Int → Bool) (l : List Int) (k : Nat) (hk : l.length = k) (w : World) (base : Nat) (A : Option Addr) (c : Nat) (ho : OwnI w base (.slice A k c) l) (hbase : base ≤ w.heap.size)
    (CC : ∀ W, Below base w W → ∀ x ∈ l, Calls Tryd.prog 42 #[.int .i64 x, .pointer (some ⟨bf, 0, none⟩), .pointer (some ⟨bx, 0, none⟩)] W fun e w' => e = .returned (.bool (P x)) ∧ Below W.heap.size W w') :
    Calls Tryd.prog 40 #[.slice A k c, .func (.func 42) #[] #[.pointer (some ⟨bf, 0, none⟩), .pointer (some ⟨bx, 0, none⟩)]] w fun e w' => ∃ A' c', e = .returned (.slice A' (l.filter fun x => !P x).length c') ∧ Ints w' A' c' (l.filter fun x => !P x) ∧ Below base w w' := by
  have hi := ho.ints'.2
  have hlm : k ≤ 9223372036854775807 := by rw [← hk]; exact ints_top hi
  have IX := Lib.hid (delR_ix bf bx P l k hk w A c hi fun W hW x hx => CC W (hW.mono hbase) x hx)
  have HK := Lib.hid hk
  have HBS := Lib.hid hbase
  rcases ix_spec P l with ⟨e1, hall⟩ | ⟨p0, x0, e1, hp0, hx0, hP0, hlt0⟩
  · rw [e1] at IX
    have HF := Lib.hid (show l.filter (fun x => !P x) = l by rw [List.filter_eq_self]; intro x hx; rw [hall x hx]; rfl)
    rw [HF.out]
    have HI := Lib.hid hi
    clear ho hi hall CC e1 hk hbase
    go_enter Tryd.func40, Tryd.ntmps40
    go_wp2_with fail
    refine IX.out.mono ?_
    rintro e w1 ⟨rfl, hb1⟩
    have HB1 := Lib.hid hb1
    clear hb1
    go_wp2
    go_ret
    exact ⟨A, c, by rw [HK.out]; rfl, HI.out.below HB1.out, HB1.out.mono HBS.out⟩
  · rw [e1] at IX
    obtain ⟨b, off, _, hA, _⟩ := hi.at_ hp0
    obtain ⟨A2, c2, eA, _, hA2⟩ := Own1.slice ho
    obtain ⟨g, rfl⟩ : ∃ g, A = some ⟨g, 0, none⟩ := by
      injection eA with eA
      rcases hA2 with h2 | ⟨g, h2⟩
      · rw [eA, h2] at hA; cases hA
      · exact ⟨g, by rw [eA, h2]⟩
    have hkc : k ≤ c := by rw [← hk]; exact hi.len
    have hp0k : p0 < k := by omega
    have hcm : c ≤ 9223372036854775807 := by have := Sl.top hi; simpa [maxLen] using this
    have hne1 : ((p0 : Int) == -1) = false := beq_eq_false_iff_ne.2 (by omega)
    have HO := Lib.hid ho
    have HCC := Lib.hid CC
    have HT0 := Lib.hid (show l.take p0 = (l.take (p0 + 1)).filter (fun x => !P x) by rw [filter_take_next hx0, filter_take_all hlt0, hP0]; simp)
    clear ho hi CC e1 hk hbase hA hA2 eA hx0 hP0 hlt0 hp0
    go_enter Tryd.func40, Tryd.ntmps40
    go_wp2_with fail
    refine IX.out.mono ?_
    rintro e w1 ⟨rfl, hb1⟩
    have HB1 := Lib.hid (hb1.mono HBS.out)
    have HO1 := Lib.hid (HO.out.below hb1)
    clear hb1
    go_wp2_with fail
    go_loopw [5, 6] (fun i j wr => ∃ (p q : Nat) (Z : List Int), i = .int .i64 p ∧ j = .int .i64 q ∧ q ≤ k ∧ p < q ∧ Hid (Z.length = k) ∧ Hid (Z.take p = (l.take q).filter (fun x => !P x)) ∧ Hid (Z.drop q = l.drop q) ∧ Hid (OwnI wr base (.slice (some ⟨g, 0, none⟩) k c) Z) ∧ Hid (Below base w wr)) (fun _ j _ => k - (intOf j).toNat)
    case atStart => exact ⟨p0, p0 + 1, l, rfl, by go_num, by omega, by omega, HK, HT0, Lib.hid rfl, HO1, HB1⟩
    case round =>
      obtain ⟨p, q, Z, rfl, rfl, hq, hpq, HZ, HT, HD, HO, HB⟩ := hrel
      have hsz := HB.out.size
      by_cases hlt : q < k
      · obtain ⟨x, hx⟩ : ∃ x, l[q]? = some x := ⟨_, List.getElem?_eq_getElem (by rw [HK.out]; exact hlt)⟩
        obtain ⟨hZx, hD2⟩ := drop_get HD.out hx
        obtain ⟨y, hy⟩ : ∃ y, Z[p]? = some y := ⟨_, List.getElem?_eq_getElem (by rw [HZ.out]; omega)⟩
        obtain ⟨g1, e1, hg1, hl1, cq, fq, _, _⟩ := Own1.at_ HO.out (Dag.ints_get hZx)
        injection e1 with e1; injection e1 with e1; subst e1
        have C1 := Lib.hid (HCC.out wr HB.out x (List.mem_of_getElem? hx))
        have HN := Lib.hid (filter_take_next (P := P) hx)
        have HD2 := Lib.hid hD2
        cases hp : P x
        · rw [hp] at HN
          have HT2 := Lib.hid (show (Z.set p x).take (p + 1) = (l.take (q + 1)).filter (fun x => !P x) by rw [take_set_next (by rw [HZ.out]; omega), HT.out, HN.out]; simp)
          have HD3 := Lib.hid (show (Z.set p x).drop (q + 1) = l.drop (q + 1) by rw [drop_set_next (by omega)]; exact HD2.out)
          have HY := Lib.hid hy
          clear hx hZx hD2 hy
          go_wp2_with fail
          refine C1.out.mono ?_
          rintro e w2 ⟨rfl, hb2⟩
          rw [hp]
          have HO2 := Lib.hid (HO.out.below hb2)
          have HB2 := Lib.hid (HB.out.trans (hb2.mono (by have := HBS.out; omega)))
          clear hp hb2 cq fq
          obtain ⟨g2, e2, hg2, hl2, cp, fp, _, hset⟩ := Own1.at_ HO2.out (Dag.ints_get HY.out)
          injection e2 with e2; injection e2 with e2; subst e2
          have HS := Lib.hid (show OwnI (w2.setCell ⟨g, p, none⟩ (.int .i64 x)) base (.slice (some ⟨g, 0, none⟩) k c) (Z.set p x) from by
            have := hset (.int .i64 x)
            rwa [show (ints Z).set p (.int .i64 x) = ints (Z.set p x) from by simp [ints, List.map_set]] at this)
          have HB3 := Lib.hid (HB2.out.setCell (p := ⟨g, p, none⟩) hg2 (.int .i64 x))
          clear hset
          go_wp2
          go_roundw
          case rel => exact ⟨p + 1, q + 1, Z.set p x, by go_num, by go_num, by omega, by omega, Lib.hid (by rw [List.length_set]; exact HZ.out), HT2, HD3, HS, HB3⟩
          case measure => simp [intOf]; omega
        · rw [hp] at HN
          have HT2 := Lib.hid (show Z.take p = (l.take (q + 1)).filter (fun x => !P x) by rw [HT.out, HN.out]; simp)
          clear hx hZx hD2 hy
          go_wp2_with fail
          refine C1.out.mono ?_
          rintro e w2 ⟨rfl, hb2⟩
          rw [hp]
          have HO2 := Lib.hid (HO.out.below hb2)
          have HB2 := Lib.hid (HB.out.trans (hb2.mono (by have := HBS.out; omega)))
          clear hp hb2 cq fq
          go_wp2
          go_roundw
          case rel => exact ⟨p, q + 1, Z, rfl, by go_num, by omega, by omega, HZ, HT2, HD2, HO2, HB2⟩
          case measure => simp [intOf]; omega
      · obtain rfl : q = k := by omega
        have hcell : ∀ t, t < q → ∃ y, wr.cell? ⟨g, t, none⟩ = some (.int .i64 y) ∧ wr.frozen? ⟨g, t, none⟩ = false ∧ Z[t]? = some y := fun t ht => by
          obtain ⟨y, hy⟩ : ∃ y, Z[t]? = some y := ⟨_, List.getElem?_eq_getElem (by rw [HZ.out]; exact ht)⟩
          obtain ⟨g1, e1, _, _, cq, fq, _, _⟩ := Own1.at_ HO.out (Dag.ints_get hy)
          injection e1 with e1; injection e1 with e1; subst e1
          exact ⟨y, cq, fq, hy⟩
        have hg := (Own1.lt HO.out (b := g) rfl).1
        have hcl : ∀ ty, (Builtin.clear_ #[25] ty #[.slice (some ⟨g, p, none⟩) (q - p) (c - p)]).run Tryd.prog wr = .ok (.tuple #[]) (wr.setCells g p (List.replicate (q - p) (.int .i64 0))) :=
          fun ty => Lib.run_clear_slice wr _ _ ty (.int .i64 0) Tryd.underlying25 zero_int rfl rfl g p _ _ (by omega) (fun t ht => by obtain ⟨y, h1, _, _⟩ := hcell (p + t) (by omega); rw [h1]; rfl) (fun t ht => by obtain ⟨y, _, h2, _⟩ := hcell (p + t) (by omega); exact h2)
        have HQ := Lib.hid (show l.filter (fun x => !P x) = Z.take p by rw [HT.out, List.take_of_length_le (by rw [HK.out]; exact Nat.le_refl _)])
        have HCE := Lib.hid hcell
        have HG := Lib.hid hg
        clear hcell hg
        go_wp2
        go_ret
        rw [HQ.out]
        have hlen : (Z.take p).length = p := by rw [List.length_take, HZ.out]; omega
        refine ⟨some ⟨g, 0, none⟩, c, by rw [hlen]; rfl, ⟨fun t u ht => ⟨g, 0, rfl, ?_⟩, by rw [Dag.ints_len, hlen]; omega, by simp only [maxLen]; omega, fun e => by cases e⟩, ?_⟩
        · obtain ⟨y, hy, rfl⟩ := Dag.ints_get' ht
          rw [List.getElem?_take] at hy
          split at hy
          · rename_i htp
            obtain ⟨y2, h1, _, h3⟩ := HCE.out t (by omega)
            rw [hy] at h3; injection h3 with h3; subst h3
            rw [Nat.zero_add, World.cell?_setCells_out _ _ _ _ _ (fun _ _ => Or.inl htp)]
            exact h1
          · cases hy
        · exact below_setCells_ HG.out _ _ HB.out

set_option maxHeartbeats 1600000 in
theorem delF_ix (bx : Nat) (P : Int → Bool) (l : List Int) (k : Nat) (hk : l.length = k) (w : World) (A : Option Addr) (c : Nat) (h : Ints w A c l) (CC0 : ∀ W, Below w.heap.size w W → ∀ x ∈ l, Calls Tryd.prog 54 #[.int .i64 x, .pointer (some ⟨bx, 0, none⟩)] W fun e w' => e = .returned (.bool (P x)) ∧ Below W.heap.size W w') :
    Calls Tryd.prog 68 #[.slice A k c, .func (.func 54) #[] #[.pointer (some ⟨bx, 0, none⟩)]] w fun e w' => e = .returned (.int .i64 (ixP P l)) ∧ Below w.heap.size w w' := by
  have hlm : k ≤ 9223372036854775807 := by rw [← hk]; exact ints_top h
  have CC := Lib.hid (show ∀ W (hW : Below w.heap.size w W) (x : Int) (hx : x ∈ l), Calls Tryd.prog 54 #[.int .i64 x, .pointer (some ⟨bx, 0, none⟩)] W fun e w' => e = .returned (.bool (P x)) ∧ Below W.heap.size W w' from fun W hW x hx => CC0 W hW x hx)
  have H := Lib.hid h
  have HK := Lib.hid hk
  clear h hk CC0
  go_enter Tryd.func68, Tryd.ntmps68
  go_wp2
  go_loopw [8] (fun i wr => ∃ j : Nat, j ≤ k ∧ i = .int .i64 j ∧ Hid (Below w.heap.size w wr) ∧ Hid (∀ q t, q < j → l[q]? = some t → P t = false)) (fun i _ => k - (intOf i).toNat)
  case atStart => exact ⟨0, Nat.zero_le _, rfl, Lib.hid (Below.refl _ _), Lib.hid fun q t hq => by omega⟩
  case round =>
    obtain ⟨j, hj, rfl, HB, HI⟩ := hrel
    by_cases hlt : j < k
    · obtain ⟨b, off, s, rfl, hx, hc⟩ := (H.out.below HB.out).at_ (k := j) (by rw [HK.out]; exact hlt)
      cases hp : P s
      · have HN := Lib.hid (show ∀ q t, q < j + 1 → l[q]? = some t → P t = false from fun q t hq ht => by
          rcases Nat.lt_or_ge q j with h | h
          · exact HI.out q t h ht
          · obtain rfl : q = j := by omega
            rw [hx] at ht; injection ht with ht; subst ht; exact hp)
        have C1 := Lib.hid (CC.out _ HB.out s (List.mem_of_getElem? hx))
        clear hx
        go_wp2_with fail
        refine C1.out.mono ?_
        rintro e w1 ⟨rfl, hb1⟩
        rw [hp]
        have HB1 := Lib.hid (blw HB.out hb1)
        clear hp hb1
        go_wp2
        go_roundw
        case rel => exact ⟨j + 1, by omega, by go_num, HB1, HN⟩
        case measure => simp [intOf]; omega
      · have HN := Lib.hid (ix_hit hx hp HI.out)
        have C1 := Lib.hid (CC.out _ HB.out s (List.mem_of_getElem? hx))
        clear hx
        go_wp2_with fail
        refine C1.out.mono ?_
        rintro e w1 ⟨rfl, hb1⟩
        rw [hp]
        have HB1 := Lib.hid (blw HB.out hb1)
        clear hp hb1
        go_wp2
        go_ret
        exact ⟨by rw [HN.out]; rfl, HB1.out⟩
    · have HN := Lib.hid (ix_miss (p := P) (l := l) (fun q t hq ht => HI.out q t (by have := HK.out; omega) ht))
      obtain rfl : j = k := by omega
      go_wp2
      go_ret
      exact ⟨by rw [HN.out]; rfl, HB.out⟩

set_option maxHeartbeats 3200000 in
theorem delF (bx : Nat) (P : Int → Bool) (l : List Int) (k : Nat) (hk : l.length = k) (w : World) (base : Nat) (A : Option Addr) (c : Nat) (ho : OwnI w base (.slice A k c) l) (hbase : base ≤ w.heap.size)
    (CC : ∀ W, Below base w W → ∀ x ∈ l, Calls Tryd.prog 54 #[.int .i64 x, .pointer (some ⟨bx, 0, none⟩)] W fun e w' => e = .returned (.bool (P x)) ∧ Below W.heap.size W w') :
    Calls Tryd.prog 40 #[.slice A k c, .func (.func 54) #[] #[.pointer (some ⟨bx, 0, none⟩)]] w fun e w' => ∃ A' c', e = .returned (.slice A' (l.filter fun x => !P x).length c') ∧ Ints w' A' c' (l.filter fun x => !P x) ∧ Below base w w' := by
  have hi := ho.ints'.2
  have hlm : k ≤ 9223372036854775807 := by rw [← hk]; exact ints_top hi
  have IX := Lib.hid (delF_ix bx P l k hk w A c hi fun W hW x hx => CC W (hW.mono hbase) x hx)
  have HK := Lib.hid hk
  have HBS := Lib.hid hbase
  rcases ix_spec P l with ⟨e1, hall⟩ | ⟨p0, x0, e1, hp0, hx0, hP0, hlt0⟩
  · rw [e1] at IX
    have HF := Lib.hid (show l.filter (fun x => !P x) = l by rw [List.filter_eq_self]; intro x hx; rw [hall x hx]; rfl)
    rw [HF.out]
    have HI := Lib.hid hi
    clear ho hi hall CC e1 hk hbase
    go_enter Tryd.func40, Tryd.ntmps40
    go_wp2_with fail
    refine IX.out.mono ?_
    rintro e w1 ⟨rfl, hb1⟩
    have HB1 := Lib.hid hb1
    clear hb1
    go_wp2
    go_ret
    exact ⟨A, c, by rw [HK.out]; rfl, HI.out.below HB1.out, HB1.out.mono HBS.out⟩
  · rw [e1] at IX
    obtain ⟨b, off, _, hA, _⟩ := hi.at_ hp0
    obtain ⟨A2, c2, eA, _, hA2⟩ := Own1.slice ho
    obtain ⟨g, rfl⟩ : ∃ g, A = some ⟨g, 0, none⟩ := by
      injection eA with eA
      rcases hA2 with h2 | ⟨g, h2⟩
      · rw [eA, h2] at hA; cases hA
      · exact ⟨g, by rw [eA, h2]⟩
    have hkc : k ≤ c := by rw [← hk]; exact hi.len
    have hp0k : p0 < k := by omega
    have hcm : c ≤ 9223372036854775807 := by have := Sl.top hi; simpa [maxLen] using this
    have hne1 : ((p0 : Int) == -1) = false := beq_eq_false_iff_ne.2 (by omega)
    have HO := Lib.hid ho
    have HCC := Lib.hid CC
    have HT0 := Lib.hid (show l.take p0 = (l.take (p0 + 1)).filter (fun x => !P x) by rw [filter_take_next hx0, filter_take_all hlt0, hP0]; simp)
    clear ho hi CC e1 hk hbase hA hA2 eA hx0 hP0 hlt0 hp0
    go_enter Tryd.func40, Tryd.ntmps40
    go_wp2_with fail
    refine IX.out.mono ?_
    rintro e w1 ⟨rfl, hb1⟩
    have HB1 := Lib.hid (hb1.mono HBS.out)
    have HO1 := Lib.hid (HO.out.below hb1)
    clear hb1
    go_wp2_with fail
    go_loopw [5, 6] (fun i j wr => ∃ (p q : Nat) (Z : List Int), i = .int .i64 p ∧ j = .int .i64 q ∧ q ≤ k ∧ p < q ∧ Hid (Z.length = k) ∧ Hid (Z.take p = (l.take q).filter (fun x => !P x)) ∧ Hid (Z.drop q = l.drop q) ∧ Hid (OwnI wr base (.slice (some ⟨g, 0, none⟩) k c) Z) ∧ Hid (Below base w wr)) (fun _ j _ => k - (intOf j).toNat)
    case atStart => exact ⟨p0, p0 + 1, l, rfl, by go_num, by omega, by omega, HK, HT0, Lib.hid rfl, HO1, HB1⟩
    case round =>
      obtain ⟨p, q, Z, rfl, rfl, hq, hpq, HZ, HT, HD, HO, HB⟩ := hrel
      have hsz := HB.out.size
      by_cases hlt : q < k
      · obtain ⟨x, hx⟩ : ∃ x, l[q]? = some x := ⟨_, List.getElem?_eq_getElem (by rw [HK.out]; exact hlt)⟩
        obtain ⟨hZx, hD2⟩ := drop_get HD.out hx
        obtain ⟨y, hy⟩ : ∃ y, Z[p]? = some y := ⟨_, List.getElem?_eq_getElem (by rw [HZ.out]; omega)⟩
        obtain ⟨g1, e1, hg1, hl1, cq, fq, _, _⟩ := Own1.at_ HO.out (Dag.ints_get hZx)
        injection e1 with e1; injection e1 with e1; subst e1
        have C1 := Lib.hid (HCC.out wr HB.out x (List.mem_of_getElem? hx))
        have HN := Lib.hid (filter_take_next (P := P) hx)
        have HD2 := Lib.hid hD2
        cases hp : P x
        · rw [hp] at HN
          have HT2 := Lib.hid (show (Z.set p x).take (p + 1) = (l.take (q + 1)).filter (fun x => !P x) by rw [take_set_next (by rw [HZ.out]; omega), HT.out, HN.out]; simp)
          have HD3 := Lib.hid (show (Z.set p x).drop (q + 1) = l.drop (q + 1) by rw [drop_set_next (by omega)]; exact HD2.out)
          have HY := Lib.hid hy
          clear hx hZx hD2 hy
          go_wp2_with fail
          refine C1.out.mono ?_
          rintro e w2 ⟨rfl, hb2⟩
          rw [hp]
          have HO2 := Lib.hid (HO.out.below hb2)
          have HB2 := Lib.hid (HB.out.trans (hb2.mono (by have := HBS.out; omega)))
          clear hp hb2 cq fq
          obtain ⟨g2, e2, hg2, hl2, cp, fp, _, hset⟩ := Own1.at_ HO2.out (Dag.ints_get HY.out)
          injection e2 with e2; injection e2 with e2; subst e2
          have HS := Lib.hid (show OwnI (w2.setCell ⟨g, p, none⟩ (.int .i64 x)) base (.slice (some ⟨g, 0, none⟩) k c) (Z.set p x) from by
            have := hset (.int .i64 x)
            rwa [show (ints Z).set p (.int .i64 x) = ints (Z.set p x) from by simp [ints, List.map_set]] at this)
          have HB3 := Lib.hid (HB2.out.setCell (p := ⟨g, p, none⟩) hg2 (.int .i64 x))
          clear hset
          go_wp2
          go_roundw
          case rel => exact ⟨p + 1, q + 1, Z.set p x, by go_num, by go_num, by omega, by omega, Lib.hid (by rw [List.length_set]; exact HZ.out), HT2, HD3, HS, HB3⟩
          case measure => simp [intOf]; omega
        · rw [hp] at HN
          have HT2 := Lib.hid (show Z.take p = (l.take (q + 1)).filter (fun x => !P x) by rw [HT.out, HN.out]; simp)
          clear hx hZx hD2 hy
          go_wp2_with fail
          refine C1.out.mono ?_
          rintro e w2 ⟨rfl, hb2⟩
          rw [hp]
          have HO2 := Lib.hid (HO.out.below hb2)
          have HB2 := Lib.hid (HB.out.trans (hb2.mono (by have := HBS.out; omega)))
          clear hp hb2 cq fq
          go_wp2
          go_roundw
          case rel => exact ⟨p, q + 1, Z, rfl, by go_num, by omega, by omega, HZ, HT2, HD2, HO2, HB2⟩
          case measure => simp [intOf]; omega
      · obtain rfl : q = k := by omega
        have hcell : ∀ t, t < q → ∃ y, wr.cell? ⟨g, t, none⟩ = some (.int .i64 y) ∧ wr.frozen? ⟨g, t, none⟩ = false ∧ Z[t]? = some y := fun t ht => by
          obtain ⟨y, hy⟩ : ∃ y, Z[t]? = some y := ⟨_, List.getElem?_eq_getElem (by rw [HZ.out]; exact ht)⟩
          obtain ⟨g1, e1, _, _, cq, fq, _, _⟩ := Own1.at_ HO.out (Dag.ints_get hy)
          injection e1 with e1; injection e1 with e1; subst e1
          exact ⟨y, cq, fq, hy⟩
        have hg := (Own1.lt HO.out (b := g) rfl).1
        have hcl : ∀ ty, (Builtin.clear_ #[25] ty #[.slice (some ⟨g, p, none⟩) (q - p) (c - p)]).run Tryd.prog wr = .ok (.tuple #[]) (wr.setCells g p (List.replicate (q - p) (.int .i64 0))) :=
          fun ty => Lib.run_clear_slice wr _ _ ty (.int .i64 0) Tryd.underlying25 zero_int rfl rfl g p _ _ (by omega) (fun t ht => by obtain ⟨y, h1, _, _⟩ := hcell (p + t) (by omega); rw [h1]; rfl) (fun t ht => by obtain ⟨y, _, h2, _⟩ := hcell (p + t) (by omega); exact h2)
        have HQ := Lib.hid (show l.filter (fun x => !P x) = Z.take p by rw [HT.out, List.take_of_length_le (by rw [HK.out]; exact Nat.le_refl _)])
        have HCE := Lib.hid hcell
        have HG := Lib.hid hg
        clear hcell hg
        go_wp2
        go_ret
        rw [HQ.out]
        have hlen : (Z.take p).length = p := by rw [List.length_take, HZ.out]; omega
        refine ⟨some ⟨g, 0, none⟩, c, by rw [hlen]; rfl, ⟨fun t u ht => ⟨g, 0, rfl, ?_⟩, by rw [Dag.ints_len, hlen]; omega, by simp only [maxLen]; omega, fun e => by cases e⟩, ?_⟩
        · obtain ⟨y, hy, rfl⟩ := Dag.ints_get' ht
          rw [List.getElem?_take] at hy
          split at hy
          · rename_i htp
            obtain ⟨y2, h1, _, h3⟩ := HCE.out t (by omega)
            rw [hy] at h3; injection h3 with h3; subst h3
            rw [Nat.zero_add, World.cell?_setCells_out _ _ _ _ _ (fun _ _ => Or.inl htp)]
            exact h1
          · cases hy
        · exact below_setCells_ HG.out _ _ HB.out
end Go.Proofs.YtgejonmjmieglaaDoor.Lf

