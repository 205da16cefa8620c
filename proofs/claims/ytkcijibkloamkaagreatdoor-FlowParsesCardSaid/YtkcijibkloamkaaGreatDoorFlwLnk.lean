/- slices.Sort and slices.Compact on numbers of one's own; slices.Index of CHILD. -/
import Derived.Test.YtkcijibkloamkaaGreatDoorFlwLay
import Derived.Test.YtkcijibkloamkaaGreatDoorFlwReg
import Derived.Sort.OwnSortedInts
import Derived.Test.YtkcijibkloamkaaGreatDoorFlwTel
namespace Go.Proofs.YtkcijibkloamkaaGreatDoor
open Go.RowKit
open Dag (Sl Own1 OwnI Ints ints num)
set_option linter.unusedVariables false
set_option maxRecDepth 100000

theorem mem_compact (zs : List Int) (x : Int) : x ∈ Lib.compact zs ↔ x ∈ zs := by
  have hget : ∀ j, j < zs.length → zs.toArray[j]! = zs[j]! := fun j hj => by simp
  unfold Lib.compact Lib.compactUpTo
  constructor
  · intro h
    obtain ⟨j, hj, rfl⟩ := List.mem_map.1 h
    have hjl : j < zs.length := by simpa using (List.mem_filter.1 hj).1
    rw [hget j hjl]
    simp [hjl]
  · intro h
    obtain ⟨i, hi, rfl⟩ := List.getElem_of_mem h
    have key : ∀ i, (hi : i < zs.length) → zs[i] ∈ ((List.range zs.length).filter (Lib.keeps zs.toArray)).map (zs.toArray[·]!) := by
      intro i
      induction i with
      | zero => intro hi; exact List.mem_map.2 ⟨0, List.mem_filter.2 ⟨by simpa using hi, by simp [Lib.keeps]⟩, by simp [hi]⟩
      | succ i ih =>
        intro hi
        by_cases hk : Lib.keeps zs.toArray (i + 1) = true
        · exact List.mem_map.2 ⟨i + 1, List.mem_filter.2 ⟨by simpa using hi, hk⟩, by simp [hi]⟩
        · have h1 : zs[i + 1] = zs[i] := by
            have h2 : ¬ (i + 1 = 0 ∨ zs.toArray[i + 1]! ≠ zs.toArray[i + 1 - 1]!) := by simpa [Lib.keeps] using hk
            have h3 : zs.toArray[i + 1]! = zs.toArray[i + 1 - 1]! := by
              by_cases e : zs.toArray[i + 1]! = zs.toArray[i + 1 - 1]!
              · exact e
              · exact absurd (Or.inr e) h2
            have hi2 : i < zs.length := by omega
            simpa [hi, hi2] using h3
          rw [h1]
          exact ih (by omega)
    exact key i hi
/-- of an ascending list each is left once -/
theorem compact_nodup {zs : List Int} (h : zs.Pairwise (fun x y => x ≤ y)) : (Lib.compact zs).Nodup := by
  unfold Lib.compact Lib.compactUpTo List.Nodup
  rw [List.pairwise_map, List.pairwise_filter]
  refine List.Pairwise.imp_of_mem ?_ List.pairwise_lt_range
  intro a b ha hb hab _ hkb
  have hbl : b < zs.length := by simpa using hb
  have hal : a < zs.length := by omega
  have h1 : zs.toArray[b]! ≠ zs.toArray[b - 1]! := by
    have h2 : b = 0 ∨ zs.toArray[b]! ≠ zs.toArray[b - 1]! := by simpa [Lib.keeps] using hkb
    rcases h2 with h2 | h2
    · omega
    · exact h2
  have hbl1 : b - 1 < zs.length := by omega
  have e1 : zs.toArray[b]! = zs[b] := by simp [hbl]
  have e2 : zs.toArray[b - 1]! = zs[b - 1] := by simp [hbl1]
  have e3 : zs.toArray[a]! = zs[a] := by simp [hal]
  rw [e1, e2] at h1
  rw [e1, e3]
  have hp := List.pairwise_iff_getElem.1 h
  have h3 : zs[b - 1] ≤ zs[b] := hp (b - 1) b hbl1 hbl (by omega)
  have h4 : zs[a] ≤ zs[b - 1] := by
    rcases Nat.lt_or_ge a (b - 1) with h | h
    · exact hp a (b - 1) hal hbl1 h
    · have : a = b - 1 := by omega
      subst this; exact Int.le_refl _
  omega
theorem compact_len (zs : List Int) : (Lib.compact zs).length ≤ zs.length := by
  unfold Lib.compact Lib.compactUpTo
  rw [List.length_map]
  exact Nat.le_trans (List.length_filter_le _ _) (by simp)

theorem own_block {w : World} {base g n c : Nat} {xs : List Int} (h : Own1 w base 3 (.slice (some ⟨g, 0, none⟩) n c) (ints xs)) : ∃ cur, w.heap[g]? = some (Obj.cells cur 3 (0, 0)) ∧ base ≤ g ∧ xs.length ≤ c ∧ c ≤ maxLen ∧ cur.size = c * 1 ∧ cur.toList.take xs.length = xs.map (Value.int .i64) ∧ n = xs.length := by
  rcases h.2 with ⟨hv, _⟩ | ⟨g', cap, cur, hv, hbg, hh, h1, h2, h3, h4⟩
  · cases hv
  · injection hv with e1 e2 e3
    injection e1 with e1; injection e1 with e1
    subst e1 e3
    rw [Dag.ints_len] at h1 h4 e2
    rw [Nat.mul_one] at h4
    exact ⟨cur, hh, hbg, h1, h2, h3, h4, e2⟩

theorem sort_any (xs : List Int) (n : Nat) (w : World) (base g c : Nat) (ho : Own1 w base 3 (.slice (some ⟨g, 0, none⟩) n c) (ints xs)) (hn : n ≤ 1000000) :
    Calls Tryz.prog 99 #[.slice (some ⟨g, 0, none⟩) n c] w fun e w' => e = .returned (.tuple #[]) ∧ (∃ ys, (∀ x, x ∈ ys ↔ x ∈ xs) ∧ ys.length = xs.length ∧ ys.Pairwise (fun x y => x ≤ y) ∧ Own1 w' base 3 (.slice (some ⟨g, 0, none⟩) n c) (ints ys)) ∧ w.grownBy w' (some g) := by
  obtain ⟨cur, hh, hbg, h1, h2, h3, h4, rfl⟩ := own_block ho
  refine (Any.slices_Sort_int Tryz.lays189 g 0 c xs w (holds_of_blockI hh h4) (Dag.blk_lt hh) (by omega)).mono ?_
  rintro e w' ⟨rfl, k, os, rfl⟩
  refine ⟨rfl, ⟨xs.mergeSort fun x y => decide (x ≤ y), fun x => List.mem_mergeSort, List.length_mergeSort _, ?_, ?_⟩, grownBy_sortedI _⟩
  · have := List.pairwise_mergeSort (le := fun (x y : Int) => decide (x ≤ y)) (fun a b c h1 h2 => by simp at h1 h2 ⊢; omega) (fun a b => by simp; omega) xs
    exact this.imp (fun h => by simpa using h)
  have := ownsRow_sortedI (base := base) (g := g) (cap := c) (n := k) (os := os) (ss := xs) (ts := xs.mergeSort fun x y => decide (x ≤ y)) (List.length_mergeSort _) hbg hh h1 h2 h3
  unfold Own1
  rw [Dag.ints_len, List.length_mergeSort]
  exact this
theorem compact_any (xs : List Int) (n : Nat) (w : World) (base g c : Nat) (ho : Own1 w base 3 (.slice (some ⟨g, 0, none⟩) n c) (ints xs)) (hn : n ≤ 1000000) (hp : xs.Pairwise (fun x y => x ≤ y)) :
    Calls Tryz.prog 173 #[.slice (some ⟨g, 0, none⟩) n c] w fun e w' => ∃ ys, e = .returned (.slice (some ⟨g, 0, none⟩) ys.length c) ∧ (∀ x, x ∈ ys ↔ x ∈ xs) ∧ ys.length ≤ xs.length ∧ ys.Nodup ∧ IntsT w' (some ⟨g, 0, none⟩) c ys ∧ w.grownBy w' (some g) := by
  obtain ⟨cur, hh, hbg, h1, h2, h3, h4, rfl⟩ := own_block ho
  refine (Any.slices_Compact_int Tryz.laysNm220 g 0 c xs w (holds_of_blockI hh h4) (by omega) h1).mono ?_
  rintro e w' ⟨rfl, q, rfl⟩
  have hcl := compact_len xs
  obtain ⟨ts, hts⟩ : ∃ ts, Lib.compact xs ++ List.replicate (xs.length - (Lib.compact xs).length) 0 = ts := ⟨_, rfl⟩
  have htl : ts.length = xs.length := by rw [← hts, List.length_append, List.length_replicate]; omega
  rw [hts]
  have hown := ownsRow_sortedI (base := base) (g := g) (cap := c) (n := q) (os := #[]) (ss := xs) (ts := ts) htl hbg hh h1 h2 h3
  have hgr := grownBy_sortedI (w := w) (g := g) (n := q) (os := #[]) ts.toArray
  rw [Sort.grow_empty] at hown hgr
  have hO : Own1 (Sort.putRow (Value.int .i64) (Sort.ahead w q) g 0 ts.toArray) base 3 (.slice (some ⟨g, 0, none⟩) xs.length c) (ints ts) := by
    unfold Own1
    rw [Dag.ints_len, htl]
    exact hown
  have hS := (Own1.sl hO).2
  refine ⟨Lib.compact xs, rfl, mem_compact xs, hcl, compact_nodup hp, ⟨⟨fun k u hu => ?_, by rw [Dag.ints_len]; omega, hS.top, hS.nil⟩, fun a ha => ?_⟩, hgr⟩
  · refine hS.cells k u ?_
    rw [← hts, Dag.ints_app, List.getElem?_append_left (List.getElem?_eq_some_iff.1 hu).1]
    exact hu
  · injection ha with ha; subst ha
    exact Own1.typed hO rfl

end Go.Proofs.YtkcijibkloamkaaGreatDoor

/- The tasks of some names. -/
namespace Go.Proofs.YtkcijibkloamkaaGreatDoor
open Go.RowKit
open Dag (Sl Own1 OwnI Ints ints num info_int)
set_option linter.unusedVariables false
set_option maxRecDepth 100000

def RetT (w : World) (ns l : List (List UInt8)) (e : Ending) (w' : World) : Prop := Below w.heap.size w w' ∧ (match idxs ns l with
  | none => e = .returned (.tuple #[.slice none 0 0, .bool false])
  | some p => ∃ A c ys, e = .returned (.tuple #[.slice A ys.length c, .bool true]) ∧ IntsT w' A c ys ∧ SameM ys p ∧ ys.length ≤ 1000000 ∧ ys.Nodup)
theorem idxs_none {ns l : List (List UInt8)} {k : Nat} {s : List UInt8} (h : l[k]? = some s) (hs : s ∉ ns) : idxs ns l = none := by
  unfold idxs
  rw [if_neg]
  intro h2
  have := List.all_eq_true.1 h2 s (List.mem_of_getElem? h)
  exact hs (by simpa using this)
theorem idxs_some {ns l : List (List UInt8)} (h : ∀ (j : Nat) (s : List UInt8), l[j]? = some s → s ∈ ns) : idxs ns l = some (l.map fun s => ns.idxOf s) := by
  unfold idxs
  rw [if_pos]
  rw [List.all_eq_true]
  intro s hs
  obtain ⟨j, hj, rfl⟩ := List.getElem_of_mem hs
  simpa using h j _ (List.getElem?_eq_getElem hj)
theorem retT_none {w w' : World} {ns l : List (List UInt8)} (h : idxs ns l = none) (hb : Below w.heap.size w w') : RetT w ns l (.returned (.tuple #[.slice none 0 0, .bool false])) w' := ⟨hb, by rw [h]⟩
theorem retT_some {w w' : World} {ns l : List (List UInt8)} {p : List Nat} (h : idxs ns l = some p) (hb : Below w.heap.size w w') {A : Option Addr} {c : Nat} {ys : List Int} (h1 : IntsT w' A c ys) (h2 : SameM ys p) (h3 : ys.length ≤ 1000000) (h4 : ys.Nodup) : RetT w ns l (.returned (.tuple #[.slice A ys.length c, .bool true])) w' := ⟨hb, by rw [h]; exact ⟨A, c, ys, rfl, h1, h2, h3, h4⟩⟩
def idxL (ns : List (List UInt8)) (l : List (List UInt8)) : List Int := num (l.map fun s => ns.idxOf s)
theorem idxL_take {ns l : List (List UInt8)} {k : Nat} {s : List UInt8} (h : l[k]? = some s) : idxL ns (l.take (k + 1)) = idxL ns (l.take k) ++ [(ns.idxOf s : Int)] := by
  unfold idxL num; rw [List.take_add_one, h]; simp
theorem idxL_len (ns l : List (List UInt8)) : (idxL ns l).length = l.length := by simp [idxL, num]

set_option maxHeartbeats 3200000 in
theorem tasks_any (ts : List TaskP) (M m2 : Nat) (D : Nat) (l : List (List UInt8)) (n : Nat) (hn : l.length = n) (h0 : 0 < n) (hm : n ≤ 100000) (w : World) (A : Option Addr) (c : Nat) (hW : Words w A c l) (hs : ∀ s ∈ l, s.length ≤ maxLen) (hc13 : w.cell? ⟨D, 13, none⟩ = some (.map (some M))) (hM : MapAt w M m2 (nameI ts) m2) :
    Calls Tryz.prog 145 #[.pointer (some ⟨D, 0, none⟩), .slice A n c] w (RetT w (namesP ts) l) := by
  subst hn
  have H := Lib.hid hW; have HS := Lib.hid hs; have HM := Lib.hid hM; have HC := Lib.hid hc13
  have hlm := hW.lenI
  have hltD := World.block_lt_of_cell? w _ hc13
  clear hW hs hM hc13
  go_enter Tryz.func145, Tryz.ntmps145
  go_wp2
  go_loopw [6, 13] (fun v i wr => ∃ (k : Nat) (A' : Option Addr) (c' : Nat), k ≤ l.length ∧ i = .int .i64 k ∧ v = .slice A' k c' ∧ Below w.heap.size w wr ∧ Hid (Own1 wr w.heap.size 3 (.slice A' k c') (ints (idxL (namesP ts) (l.take k)))) ∧ Hid (∀ (j : Nat) (s : List UInt8), j < k → l[j]? = some s → s ∈ namesP ts)) (fun _ i _ => l.length - (intOf i).toNat)
  case atStart => exact ⟨0, none, 0, Nat.zero_le _, rfl, rfl, Below.refl _ _, Lib.hid (Own1.nil _ _ _), Lib.hid fun j s hj => by omega⟩
  case round =>
    obtain ⟨k, A', c', hk, rfl, rfl, hb, ho, hi⟩ := hrel
    by_cases hlt : k < l.length
    · obtain ⟨b, off, s, rfl, hx, hc⟩ := (H.out.below hb).at_ hlt
      have hsl := HS.out s (List.mem_of_getElem? hx)
      have k13 := keep_cell hb HC.out
      have hM2 := HM.out.below hb
      have hltD2 := World.block_lt_of_cell? wr _ k13
      by_cases hm : s ∈ namesP ts
      · have hlk := run_getM hM2 s hsl
        rw [nameI_some hm] at hlk
        have HNX := Lib.hid (idxL_take (ns := namesP ts) hx)
        have HI2 := Lib.hid (show ∀ (j : Nat) (s : List UInt8), j < k + 1 → l[j]? = some s → s ∈ namesP ts from fun j t hj ht => by
          rcases Nat.lt_or_ge j k with h | h
          · exact hi.out j t h ht
          · obtain rfl : j = k := by omega
            rw [hx] at ht; injection ht with ht; subst ht; exact hm)
        obtain ⟨x, hxx⟩ : ∃ x, (namesP ts).idxOf s = x := ⟨_, rfl⟩
        rw [hxx] at hlk
        have HXX := Lib.hid hxx
        have HL := Lib.hid (show (ints (idxL (namesP ts) (l.take k))).length = k from by rw [Dag.ints_len, idxL_len, List.length_take]; omega)
        clear hx hm hxx hM2
        go_wp2_with (at_builtin; refine Dag.wpList_appg rfl _ _ 34 3 (.int .i64 0) 8 Tryz.underlying34 info_int rfl (by decide) rfl w.heap.size (.slice A' k c') (ints (idxL (namesP ts) (l.take k))) rfl (Own1.below ho.out (al _ _)) (some ⟨wr.heap.size, 0, none⟩) 1 1 [.int .i64 (x : Int)] rfl rfl (Sl.one rfl) (by simp; rfl) (by rw [HL.out]; simp; omega) (by have := hb.size; simp; omega) ?_; intro l9 A9 c9 w9 el ho9 hg9 hb9 hbl9; have HO9 := Lib.hid ho9; have HBL := Lib.hid hbl9; have EL := Lib.hid el; clear ho9 hg9 hb9 hbl9 el)
        have e9 : l9 = ints (idxL (namesP ts) (l.take (k + 1))) := by rw [EL.out, HNX.out, HXX.out]; simp [ints]
        have hl9 : l9.length = k + 1 := by rw [e9, Dag.ints_len, idxL_len, List.length_take]; omega
        have hO := HO9.out
        rw [e9] at hO
        rw [hl9]
        rw [← e9, hl9, e9] at hO
        have HO := Lib.hid hO
        clear hO
        go_roundw
        case rel => exact ⟨k + 1, A9, c9, by omega, by go_num, rfl, (hb.trans (al wr _ |>.mono hb.size)).trans HBL.out, HO, HI2⟩
        case measure => simp [intOf]; omega
      · have hlk := run_getM hM2 s hsl
        rw [nameI_none hm] at hlk
        have HN := Lib.hid (idxs_none hx hm)
        clear hx hm hM2
        go_wp2
        go_ret2
        exact retT_none HN.out hb
    · obtain rfl : k = l.length := by omega
      obtain ⟨A1, c1, e1, _, hA⟩ := Own1.slice ho.out
      injection e1 with e1 e2 e3
      subst e1 e3
      have hln : (ints (idxL (namesP ts) (l.take l.length))).length = l.length := by rw [Dag.ints_len, idxL_len, List.take_length]
      obtain ⟨g, rfl⟩ : ∃ g, A' = some ⟨g, 0, none⟩ := by
        rcases hA with hA | hA
        · have := ho.out.2
          rcases this with ⟨hv, h0'⟩ | ⟨g, cap, cur, hv, _⟩
          · omega
          · injection hv with hv; exact ⟨g, hv⟩
        · exact hA
      have hbg := (Own1.lt ho.out (b := g) rfl).1
      have HSM := Lib.hid (show ∀ x : Int, x ∈ idxL (namesP ts) (l.take l.length) ↔ x ∈ num (l.map fun s => (namesP ts).idxOf s) from fun x => by rw [List.take_length]; exact Iff.rfl)
      have HIS := Lib.hid (idxs_some (ns := namesP ts) (l := l) (fun j s hj => hi.out j s (List.getElem?_eq_some_iff.1 hj).1 hj))
      have HIL : Hid ((idxL (namesP ts) (l.take l.length)).length = l.length) := Lib.hid (by rw [← Dag.ints_len]; exact hln)
      clear hA hln hi e2
      go_wp2_with fail
      refine (sort_any _ l.length _ w.heap.size g c' ho.out (by omega)).mono ?_
      rintro e w1 ⟨rfl, ⟨ys, hys, hyl, hyp, ho1⟩, hg1⟩
      have HYP := Lib.hid hyp; clear hyp
      have hb1 : Below w.heap.size w w1 := hb.grown hg1 hb.size (fun j hj => by cases hj; exact hbg)
      have HYL := Lib.hid (hyl.trans HIL.out)
      clear hyl
      have HO1 := Lib.hid ho1
      have HYS := Lib.hid hys
      clear ho1 hg1 hys ho
      go_wp2_with fail
      refine (compact_any ys l.length _ w.heap.size g c' HO1.out (by omega) HYP.out).mono ?_
      rintro e w2 ⟨zs, rfl, hz, hzl, hnd, hI, hg2⟩
      have HND := Lib.hid hnd; clear hnd
      go_wp2
      go_ret2
      exact retT_some HIS.out (hb1.grown hg2 hb1.size (fun j hj => by cases hj; exact hbg)) hI (fun x => (hz x).trans ((HYS.out x).trans (HSM.out x))) (by have := HYL.out; omega) HND.out

end Go.Proofs.YtkcijibkloamkaaGreatDoor

/- A PARENT line taken in. -/
namespace Go.Proofs.YtkcijibkloamkaaGreatDoor
open Go.RowKit
open Dag (Sl Own1 OwnI Ints ints num)
set_option linter.unusedVariables false
set_option maxRecDepth 100000

theorem sb_eq {a b : List UInt8} (h : a = b) : ((sb a).toList == (sb b).toList) = true := by subst h; simp
theorem sb_ne {a b : List UInt8} (h : a ≠ b) : ((sb a).toList == (sb b).toList) = false := by rw [sb_toList, sb_toList]; exact beq_eq_false_iff_ne.2 h

set_option maxHeartbeats 1600000 in
theorem index_any (l : List (List UInt8)) (n : Nat) (hn : l.length = n) (x : List UInt8) (q : Nat) (hq : l.idxOf x = q) (hql : q < n) (w : World) (A : Option Addr) (c : Nat) (h : Words w A c l) :
    Calls Tryz.prog 144 #[.slice A n c, .string (sb x)] w fun e w' => e = .returned (.int .i64 (q : Int)) ∧ Below w.heap.size w w' := by
  subst hn
  have hlm := h.lenI
  have H := Lib.hid h; clear h
  have HQ := Lib.hid (show l[q]? = some x from by
    subst hq
    have h1 := List.getElem_idxOf hql
    rw [List.getElem?_eq_getElem hql, h1])
  have HN := Lib.hid (show ∀ (j : Nat) (s : List UInt8), j < q → l[j]? = some s → s ≠ x from by
    intro j s hj hs e
    subst e
    obtain ⟨hjl, e2⟩ := List.getElem?_eq_some_iff.1 hs
    have := List.not_of_lt_findIdx (p := (· == s)) (xs := l) (i := j) (by rw [← List.idxOf]; omega)
    rw [e2] at this
    simp at this)
  clear hq
  go_enter Tryz.func144, Tryz.ntmps144
  go_wp2
  go_loopw [8] (fun i wr => ∃ k : Nat, k ≤ q ∧ i = .int .i64 k ∧ Below w.heap.size w wr) (fun i _ => l.length - (intOf i).toNat)
  case atStart => exact ⟨0, Nat.zero_le _, rfl, Below.refl _ _⟩
  case round =>
    obtain ⟨k, hk, rfl, hb⟩ := hrel
    obtain ⟨b, off, s, rfl, hx, hc⟩ := (H.out.below hb).at_ (k := k) (by omega)
    have hkl : k < l.length := by omega
    by_cases hkq : k = q
    · subst hkq
      have hs : s = x := by have := HQ.out; rw [hx] at this; injection this
      subst hs
      have hbe := sb_eq (rfl : s = s)
      clear hx
      go_wp2
      all_goals go_ret
      all_goals exact ⟨rfl, hb⟩
    · have hne := HN.out k s (by omega) hx
      have hbe := sb_ne (fun e => hne e.symm : x ≠ s)
      clear hx
      go_wp2
      all_goals go_roundw
      all_goals first
        | exact ⟨k + 1, by omega, by go_num, hb⟩
        | (simp [intOf]; omega)

theorem info_link : (Tryz.prog.info? 110).map (fun i => (i.zero, i.size, i.bytes)) = some (some (.agg #[.slice none 0 0, .slice none 0 0]), 2, 48) := by kernel_rfl
/-- a link more -/
theorem LinksAt.snoc {w : World} {lv : List Value} {links : List (List Nat × List Nat)} (h : LinksAt w lv links) {p c : List Nat} {A1 A2 : Option Addr} {c1 c2 : Nat} {xs ys : List Int} (h1 : IntsT w A1 c1 xs) (h2 : IntsT w A2 c2 ys) (m1 : SameM xs p) (m2 : SameM ys c) (l1 : xs.length ≤ 1000000) (l2 : ys.length ≤ 1000000) (n1 : xs.Nodup) (n2 : ys.Nodup) :
    LinksAt w (lv ++ [.slice A1 xs.length c1, .slice A2 ys.length c2]) (links ++ [(p, c)]) := by
  have hl := h.1
  refine ⟨by simp [hl]; omega, fun i p' c' hi => ?_⟩
  by_cases e : i < links.length
  · rw [List.getElem?_append_left e] at hi
    obtain ⟨B1, d1, us, B2, d2, vs, g1, g2, r⟩ := h.2 i p' c' hi
    refine ⟨B1, d1, us, B2, d2, vs, ?_, ?_, r⟩
    · rw [List.getElem?_append_left (by omega)]; exact g1
    · rw [List.getElem?_append_left (by omega)]; exact g2
  · have hil : i = links.length := by
      have := (List.getElem?_eq_some_iff.1 hi).1
      simp at this; omega
    subst hil
    rw [List.getElem?_append_right (Nat.le_refl _), Nat.sub_self, List.getElem?_cons_zero] at hi
    injection hi with hi
    injection hi with hi1 hi2
    subst hi1 hi2
    refine ⟨A1, c1, xs, A2, c2, ys, ?_, ?_, h1, h2, m1, m2, l1, l2, n1, n2⟩
    · rw [List.getElem?_append_right (by omega), hl, Nat.sub_self]; rfl
    · rw [List.getElem?_append_right (by omega), hl, show links.length * 2 + 1 - links.length * 2 = 1 from by omega]; rfl
theorem parSt_none1 {s : St} {l : List (List UInt8)} {q : Nat} (hq : l.idxOf childW = q) (h : idxs (namesP s.tasks) (l.take q) = none) : parSt s l = .error 52 := by
  unfold parSt; rw [hq, h]
theorem parSt_none2 {s : St} {l : List (List UInt8)} {q : Nat} (hq : l.idxOf childW = q) (h : idxs (namesP s.tasks) (l.drop (q + 1)) = none) : parSt s l = .error 52 := by
  unfold parSt; rw [hq, h]
  cases idxs (namesP s.tasks) (l.take q) <;> rfl
theorem parSt_some {s : St} {l : List (List UInt8)} {q : Nat} {p c : List Nat} (hq : l.idxOf childW = q) (h : idxs (namesP s.tasks) (l.take q) = some p) (h2 : idxs (namesP s.tasks) (l.drop (q + 1)) = some c) : parSt s l = .ok { s with links := s.links ++ [(p, c)] } := by
  unfold parSt; rw [hq, h, h2]

set_option maxHeartbeats 3200000 in
theorem addLink_any (s : St) (l : List (List UInt8)) (n : Nat) (hn : l.length = n) (hm : n ≤ 100000) (q : Nat) (hq : l.idxOf childW = q) (h0 : 0 < q) (h1 : q + 1 < n) (w : World) (base D : Nat) (h : Drf w base D s) (A : Option Addr) (c : Nat) (hW : Words w A c l) (hs : ∀ x ∈ l, x.length ≤ maxLen) (hw : base ≤ w.heap.size) (hk : s.links.length ≤ 100000) :
    Calls Tryz.prog 114 #[.pointer (some ⟨D, 0, none⟩), .slice A n c] w (RetD w base D (parSt s l)) := by
  subst hn
  obtain ⟨TA, tc, HA, hc, LA, lc, M, hD, hP⟩ := h.ex
  have HH := Lib.hid h
  have HD := Lib.hid hD; have HP := Lib.hid hP
  have hl := h.low
  have hlt := Dag.blk_lt hD
  have c13 := (Drf.cells hD 13).1
  simp only [draftC, List.getElem?_toArray, List.getElem?_cons_succ, List.getElem?_cons_zero] at c13
  have C13 := Lib.hid c13; clear c13
  have HW := Lib.hid hW
  have HS := Lib.hid hs
  have qc1 := run_cut_h A l.length c q .i64 (q : Int) rfl (by have := hW.len; omega)
  have qc2 := run_cut_l A l.length c (q + 1) .i64 ((q : Int) + 1) (by simp) (by omega)
  have hw1 : IntKind.i64.wrap ((q : Int) + 1) = (q : Int) + 1 := by rw [IntKind.wrap_i64]; omega
  have HC := Lib.hid (hW.cut (k := q + 1) (by omega))
  have HT : Hid (∀ w', Below w.heap.size w w' → Words w' A c (l.take q)) := by
    obtain ⟨b, off, x, e, _, _⟩ := hW.at_ (k := 0) (by omega)
    exact Lib.hid fun w' hb => (hW.take e (by omega)).below hb
  have HQ := Lib.hid hq
  have hl1 : (l.take q).length = q := by rw [List.length_take]; omega
  have hl2 : (l.drop (q + 1)).length = l.length - (q + 1) := List.length_drop
  have HL1 := Lib.hid hl1; have HL2 := Lib.hid hl2
  clear h hD hP hW hs hq hl1 hl2
  go_enter Tryz.func114, Tryz.ntmps114
  go_wp2_with fail
  refine (index_any l _ rfl childW q HQ.out (by omega) _ A c HW.out).mono ?_
  rintro e w1 ⟨rfl, hb1⟩
  have HB1 := Lib.hid hb1; clear hb1
  go_wp2_with fail
  refine (tasks_any s.tasks M s.tasks.length D (l.take q) q HL1.out h0 (by omega) _ A c (HT.out _ HB1.out) (fun x hx => HS.out x (List.mem_of_mem_take hx)) (keep_cell HB1.out C13.out) (HP.out.idx.below HB1.out)).mono ?_
  rintro e w2 ⟨hb2, h2⟩
  have HB2 := Lib.hid (blw HB1.out hb2); clear hb2
  have T2 : ∀ w3 : World, True := fun _ => trivial
  cases hi1 : idxs (namesP s.tasks) (l.take q) with
  | none =>
    rw [hi1] at h2
    subst h2
    have HN := Lib.hid (parSt_none1 (s := s) HQ.out hi1)
    clear hi1
    go_wp2_with fail
    refine (tasks_any s.tasks M s.tasks.length D (l.drop (q + 1)) _ HL2.out (by omega) (by omega) _ _ _ (HC.out.below HB2.out) (fun x hx => HS.out x (List.mem_of_mem_drop hx)) (keep_cell HB2.out C13.out) (HP.out.idx.below HB2.out)).mono ?_
    rintro e w3 ⟨hb3, h3⟩
    have HB3 := Lib.hid (blw HB2.out hb3); clear hb3
    cases hi2 : idxs (namesP s.tasks) (l.drop (q + 1)) with
    | none =>
      rw [hi2] at h3
      subst h3
      clear hi2
      go_wp2
      go_ret
      exact ret_err HN.out (by decide) (HH.out.below HB3.out) (HB3.out.mono hw)
    | some c2 =>
      rw [hi2] at h3
      obtain ⟨A3, c3, ys, rfl, _⟩ := h3
      clear hi2
      go_wp2
      go_ret
      exact ret_err HN.out (by decide) (HH.out.below HB3.out) (HB3.out.mono hw)
  | some p =>
    rw [hi1] at h2
    obtain ⟨A2, c2, xs, rfl, hI2, hS2, hL2, hN2⟩ := h2
    have HN2 := Lib.hid hN2; clear hN2
    have HI2 := Lib.hid hI2; have HS2 := Lib.hid hS2; have HI1 := Lib.hid hi1
    clear hI2 hS2 hi1
    go_wp2_with fail
    refine (tasks_any s.tasks M s.tasks.length D (l.drop (q + 1)) _ HL2.out (by omega) (by omega) _ _ _ (HC.out.below HB2.out) (fun x hx => HS.out x (List.mem_of_mem_drop hx)) (keep_cell HB2.out C13.out) (HP.out.idx.below HB2.out)).mono ?_
    rintro e w3 ⟨hb3, h3⟩
    have HB23 := Lib.hid hb3
    have HB3 := Lib.hid (blw HB2.out hb3); clear hb3
    cases hi2 : idxs (namesP s.tasks) (l.drop (q + 1)) with
    | none =>
      rw [hi2] at h3
      subst h3
      have HN := Lib.hid (parSt_none2 (s := s) HQ.out hi2)
      clear hi2
      go_wp2
      go_ret
      exact ret_err HN.out (by decide) (HH.out.below HB3.out) (HB3.out.mono hw)
    | some pc =>
      rw [hi2] at h3
      obtain ⟨A3, c3, ys, rfl, hI3, hS3, hL3, hN3⟩ := h3
      have HN3 := Lib.hid hN3; clear hN3
      have HI3 := Lib.hid hI3; have HS3 := Lib.hid hS3
      have HN := Lib.hid (parSt_some (s := s) HQ.out HI1.out hi2)
      clear hI3 hS3 hi2
      have hD3 := (HB3.out.block D hlt).trans HD.out
      have hlt3 := Dag.blk_lt hD3
      obtain ⟨k15, f15⟩ := Drf.cells hD3 15
      simp only [draftC, List.getElem?_toArray, List.getElem?_cons_succ, List.getElem?_cons_zero] at k15
      have HD3 := Lib.hid hD3; clear hD3
      have HP3 := Lib.hid (HP.out.keep (Kept.below HB3.out) (KeptM.below HB3.out))
      obtain ⟨lv, hO3, hLA⟩ := HP3.out.links
      have HO3 := Lib.hid hO3; have HLA := Lib.hid hLA; clear hO3 hLA
      have HOW := Lib.hid (show ∀ W : World, (∃ o, W.heap = w3.heap.push o) → OwnN W base 110 2 LA s.links.length lc lv from fun W ⟨o, ho⟩ => HO3.out.keep fun b cs hb => by rw [ho]; exact push_lt hb)
      have HBS := Lib.hid (show base ≤ w3.heap.size from Nat.le_trans hw HB3.out.size)
      have HBB := Lib.hid (HB3.out.mono hw)
      go_wp2_with (at_builtin; refine wpList_apn rfl _ _ 58 110 _ 2 48 Tryz.underlying58 info_link rfl (by decide) (by decide) rfl base LA s.links.length lc lv rfl (HOW.out _ ⟨_, rfl⟩) w3.heap.size 1 [.slice A2 xs.length c2, .slice A3 ys.length c3] rfl rfl ⟨_, heap_alloc_new w3 _⟩ (by simp; exact ⟨rfl, rfl⟩) (by omega) (by have := HBS.out; simp; omega) ?_; intro A6 c6 w6 ho6 hg6 hb6; have hk6 := pushed_kept ⟨_, rfl⟩ HO3.out hg6 [48, 55, 3, 60] (by decide); have hD6 := (hk6.1 _ (by simp) D _ HD3.out).trans HD3.out; have hb6' := pushed_trans hb6 ⟨_, rfl⟩ rfl rfl rfl HBB.out HBS.out; have k15b := (Drf.cells hD6 15).1; have f15b := (Drf.cells hD6 15).2; simp only [draftC, List.getElem?_toArray, List.getElem?_cons_succ, List.getElem?_cons_zero] at k15b; have HD6 := Lib.hid hD6; have HK6 := Lib.hid hk6; have HB6 := Lib.hid hb6'; have HO6 := Lib.hid ho6; have hlt6 := Dag.blk_lt hD6; clear hg6 hb6 hk6 hb6' ho6 hD6 k15 f15)
      go_ret
      have hk7 : Kept [48, 55, 110, 3] w6 (w6.setCell ⟨D, 15, none⟩ (.slice A6 (s.links.length + 1) c6)) := Kept.set HD6.out (by decide)
      have hm7 : KeptM w6 (w6.setCell ⟨D, 15, none⟩ (.slice A6 (s.links.length + 1) c6)) := KeptM.set HD6.out
      have hl1 : (s.links ++ [(p, pc)]).length = s.links.length + 1 := by simp
      have ki : ∀ {A : Option Addr} {c : Nat} {zs : List Int}, IntsT w3 A c zs → IntsT (w6.setCell ⟨D, 15, none⟩ (.slice A6 (s.links.length + 1) c6)) A c zs := fun hi => (hi.keep (HK6.out.1 _ (by simp))).keep (hk7 _ (by simp))
      refine ret_ok HN.out ⟨⟨TA, tc, HA, hc, A6, c6, M, ?_, ?_⟩, hl⟩ (HB6.out.setCell hl _)
      · rw [Dag.blk_set HD6.out _ _]
        simp [draftC, hl1]
      · refine ⟨(HP3.out.tasks.keep (HK6.out.1 _ (by simp))).keep (hk7 _ (by simp)), (HP3.out.told.keep (HK6.out.1 _ (by simp))).keep (hk7 _ (by simp)), ⟨_, by rw [hl1]; exact HO6.out.keep (hk7 _ (by simp)), ?_⟩, (HP3.out.idx.keepM HK6.out.2).keepM hm7, HP.out.low, HP.out.nm⟩
        exact ((HLA.out.keep (HK6.out.1 _ (by simp))).keep (hk7 _ (by simp))).snoc (ki (HI2.out.keep (Kept.below (tys := [3]) HB23.out _ (by simp)))) (ki HI3.out) HS2.out HS3.out hL2 hL3 HN2.out HN3.out

end Go.Proofs.YtkcijibkloamkaaGreatDoor


