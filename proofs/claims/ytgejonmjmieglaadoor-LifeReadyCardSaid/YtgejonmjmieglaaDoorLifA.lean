/- Layer 13: slices of numbers asked: Index, Contains, Equal; isFree; a life in memory. -/
import Derived.Test.YtgejonmjmieglaaDoorLifPure
import Derived.Test.YtgejonmjmieglaaDoorLifDag
import Derived.Test.YtgejonmjmieglaaDoorMTab
namespace Go.Proofs.YtgejonmjmieglaaDoor.Lf
open Go.RowKit
open Dag (Ints IRows Own1 OwnI Sl ints num)
set_option linter.unusedVariables false
set_option maxRecDepth 100000

def ixP (p : Int → Bool) (l : List Int) : Int := if l.findIdx p < l.length then (l.findIdx p : Int) else -1
theorem ix_hit {p : Int → Bool} {l : List Int} {k : Nat} {s : Int} (h : l[k]? = some s) (hp : p s = true) (hlt : ∀ j t, j < k → l[j]? = some t → p t = false) : ixP p l = (k : Int) := by
  obtain ⟨hk, e⟩ := List.getElem?_eq_some_iff.1 h
  have e1 : l.findIdx p = k := by
    refine (List.findIdx_eq hk).2 ⟨by rw [e]; exact hp, fun j hj => ?_⟩
    have hjl : j < l.length := by omega
    rw [hlt j _ hj (List.getElem?_eq_getElem hjl)]
  unfold ixP; rw [e1, if_pos hk]
theorem ix_miss {p : Int → Bool} {l : List Int} (hlt : ∀ j t, j < l.length → l[j]? = some t → p t = false) : ixP p l = -1 := by
  unfold ixP
  rw [if_neg]
  intro h
  have h1 := List.findIdx_getElem (p := p) (w := h)
  rw [hlt _ _ h (List.getElem?_eq_getElem h)] at h1
  cases h1
theorem ix_any_iff (p : Int → Bool) (l : List Int) : l.any p = decide (0 ≤ ixP p l) := by
  unfold ixP
  cases h : l.any p
  · have : ¬ l.findIdx p < l.length := by
      intro h1
      have h2 := List.findIdx_getElem (p := p) (w := h1)
      rw [List.any_eq_false] at h
      exact h _ (List.getElem_mem h1) h2
    rw [if_neg this]; simp
  · have : l.findIdx p < l.length := by
      rw [List.findIdx_lt_length]
      rw [List.any_eq_true] at h
      exact h
    rw [if_pos this]; simp
theorem any_in (l : List Int) (x : Int) : l.any (fun y => y == x) = decide (x ∈ l) := by
  rw [Bool.eq_iff_iff, List.any_eq_true, decide_eq_true_eq]
  constructor
  · rintro ⟨y, hy, e⟩
    rw [beq_iff_eq] at e; subst e; exact hy
  · intro h; exact ⟨x, h, by simp⟩
theorem ints_top {w : World} {A : Option Addr} {c : Nat} {l : List Int} (h : Ints w A c l) : l.length ≤ 9223372036854775807 := Nat.le_trans h.len (by have := Sl.top h; simpa [maxLen] using this)

/-! a life in memory -/
def lifO (SA : Option Addr) (n sc : Nat) (FA : Option Addr) (m fc : Nat) : Obj := .cells #[.slice SA n sc, .slice FA m fc] 27 (0, 0)
theorem lifO_cells {w : World} {g : Nat} {SA FA : Option Addr} {n sc m fc : Nat} (h : w.heap[g]? = some (lifO SA n sc FA m fc)) : w.cell? ⟨g, 0, none⟩ = some (.slice SA n sc) ∧ w.cell? ⟨g, 1, none⟩ = some (.slice FA m fc) ∧ w.frozen? ⟨g, 0, none⟩ = false ∧ w.frozen? ⟨g, 1, none⟩ = false :=
  ⟨(Dag.blk_cell h 0).trans rfl, (Dag.blk_cell h 1).trans rfl, Dag.blk_frozen h 0, Dag.blk_frozen h 1⟩
structure Lif (w : World) (SA : Option Addr) (n sc : Nat) (FA : Option Addr) (m fc : Nat) (S F : List Int) : Prop where
  s : Ints w SA sc S
  f : Ints w FA fc F
  n : S.length = n
  m : F.length = m
theorem Lif.below {w w' : World} {SA FA : Option Addr} {n sc m fc : Nat} {S F : List Int} (h : Lif w SA n sc FA m fc S F) (hb : Below w.heap.size w w') : Lif w' SA n sc FA m fc S F := ⟨h.s.below hb, h.f.below hb, h.n, h.m⟩

set_option maxHeartbeats 1600000 in
theorem index_any (l : List Int) (k : Nat) (hk : l.length = k) (x : Int) (w : World) (A : Option Addr) (c : Nat) (h : Ints w A c l) :
    Calls Tryd.prog 85 #[.slice A k c, .int .i64 x] w fun e w' => e = .returned (.int .i64 (ixP (fun y => y == x) l)) ∧ Below w.heap.size w w' := by
  have hlm : k ≤ 9223372036854775807 := by rw [← hk]; exact ints_top h
  obtain ⟨P, hP⟩ : ∃ P : Int → Bool, P = fun y => y == x := ⟨_, rfl⟩
  have HP := Lib.hid (show ∀ y, (x == y) = P y from fun y => by rw [hP, Bool.eq_iff_iff, beq_iff_eq, beq_iff_eq]; exact ⟨fun h => h.symm, fun h => h.symm⟩)
  rw [← hP]
  have H := Lib.hid h
  have HK := Lib.hid hk
  clear h hk hP
  go_enter Tryd.func85, Tryd.ntmps85
  go_wp2
  go_loopw [8] (fun i wr => ∃ j : Nat, j ≤ k ∧ i = .int .i64 j ∧ Hid (Below w.heap.size w wr) ∧ Hid (∀ q t, q < j → l[q]? = some t → P t = false)) (fun i _ => k - (intOf i).toNat)
  case atStart => exact ⟨0, Nat.zero_le _, rfl, Lib.hid (Below.refl _ _), Lib.hid fun q t hq => by omega⟩
  case round =>
    obtain ⟨j, hj, rfl, HB, HI⟩ := hrel
    by_cases hlt : j < k
    · obtain ⟨b, off, s, rfl, hx, hc⟩ := (H.out.below HB.out).at_ (k := j) (by rw [HK.out]; exact hlt)
      have hs := HP.out s
      cases hp : P s
      · have HN := Lib.hid (show ∀ q t, q < j + 1 → l[q]? = some t → P t = false from fun q t hq ht => by
          rcases Nat.lt_or_ge q j with h | h
          · exact HI.out q t h ht
          · obtain rfl : q = j := by omega
            rw [hx] at ht; injection ht with ht; subst ht; exact hp)
        rw [hp] at hs
        clear hx hp
        go_wp2
        go_roundw
        case rel => exact ⟨j + 1, by omega, by go_num, HB, HN⟩
        case measure => simp [intOf]; omega
      · have HN := Lib.hid (ix_hit hx hp HI.out)
        rw [hp] at hs
        clear hx hp
        go_wp2
        go_ret
        exact ⟨by rw [HN.out]; rfl, HB.out⟩
    · have HN := Lib.hid (ix_miss (p := P) (l := l) (fun q t hq ht => HI.out q t (by have := HK.out; omega) ht))
      obtain rfl : j = k := by omega
      go_wp2
      go_ret
      exact ⟨by rw [HN.out]; rfl, HB.out⟩
theorem contains_any (l : List Int) (k : Nat) (hk : l.length = k) (x : Int) (w : World) (A : Option Addr) (c : Nat) (h : Ints w A c l) (r : Bool) (hr : decide (x ∈ l) = r) :
    Calls Tryd.prog 69 #[.slice A k c, .int .i64 x] w fun e w' => e = .returned (.bool r) ∧ Below w.heap.size w w' := by
  rw [← hr, ← any_in, ix_any_iff]
  have H := Lib.hid h; clear h hr
  go_enter Tryd.func69, Tryd.ntmps69
  go_wp2_with fail
  refine (index_any l k hk x _ A c H.out).mono ?_
  rintro e w1 ⟨rfl, hb1⟩
  go_wp2
  go_ret
  exact ⟨rfl, hb1⟩

def sameB (l m : List Int) : Bool := decide (l = m)
set_option maxHeartbeats 800000 in
theorem eq_any (l m : List Int) (A B : Option Addr) (n k c d : Nat) (hn : l.length = n) (hk : m.length = k) (w : World) (h : Ints w A c l) (h' : Ints w B d m) (r : Bool) (hr : decide (l = m) = r) :
    Calls Tryd.prog 51 #[.slice A n c, .slice B k d] w fun e w' => e = .returned (.bool r) ∧ Below w.heap.size w w' := by
  have hnl : n ≤ 9223372036854775807 := by rw [← hn]; exact ints_top h
  have hkl : k ≤ 9223372036854775807 := by rw [← hk]; exact ints_top h'
  have H1 := Lib.hid h; have H2 := Lib.hid h'; have HN := Lib.hid hn; have HK := Lib.hid hk; have HR := Lib.hid hr
  by_cases hnk : n = k
  case neg =>
    obtain rfl : r = false := by rw [← hr]; exact decide_eq_false fun e => hnk (by rw [← hn, ← hk, e])
    have hnb : ((n : Int) != (k : Int)) = true := by rw [bne_iff_ne]; omega
    clear h h' hn hk hr hnk
    go_enter Tryd.func51, Tryd.ntmps51
    go_wp2
    go_ret
    exact ⟨rfl, Below.refl _ _⟩
  subst hnk
  have hnb : ((n : Int) != (n : Int)) = false := by simp
  clear h h' hn hk hr
  go_enter Tryd.func51, Tryd.ntmps51
  go_wp2
  go_loopw [13] (fun i wr => ∃ k : Nat, k ≤ n ∧ i = .int .i64 k ∧ Hid (decide (l.drop k = m.drop k) = r) ∧ Hid (Below w.heap.size w wr)) (fun i _ => n - (intOf i).toNat)
  case atStart => exact ⟨0, Nat.zero_le _, rfl, HR, Lib.hid (Below.refl _ _)⟩
  case round =>
    obtain ⟨k, hk, rfl, HS, HB⟩ := hrel
    by_cases hlt : k < n
    · obtain ⟨b1, o1, s, e1, hs, c1⟩ := (H1.out.below HB.out).at_ (k := k) (by rw [HN.out]; exact hlt)
      obtain ⟨b2, o2, u, e2, hu, c3⟩ := (H2.out.below HB.out).at_ (k := k) (by rw [HK.out]; exact hlt)
      subst e1 e2
      have hd1 : l.drop k = s :: l.drop (k + 1) := by
        rw [List.drop_eq_getElem_cons (by rw [HN.out]; exact hlt), (List.getElem?_eq_some_iff.1 hs).2]
      have hd2 : m.drop k = u :: m.drop (k + 1) := by
        rw [List.drop_eq_getElem_cons (by rw [HK.out]; exact hlt), (List.getElem?_eq_some_iff.1 hu).2]
      have hS := HS.out
      rw [hd1, hd2] at hS
      by_cases h1 : s = u
      · subst h1
        have HS2 := Lib.hid (show decide (l.drop (k + 1) = m.drop (k + 1)) = r by rw [← hS]; simp)
        have hb : (s != s) = false := by simp
        clear hS hd1 hd2 hs hu HS
        go_wp2_with fail
        go_quiet (fail)
        go_wp2
        go_roundw
        case rel => exact ⟨k + 1, by omega, by go_num, HS2, Lib.hid (HB.out.trans ((Dag.below_drew _ _).mono HB.out.size))⟩
        case measure => simp [intOf]; omega
      · obtain rfl : r = false := by rw [← hS]; simp [h1]
        have hb : (s != u) = true := by rw [bne_iff_ne]; exact h1
        clear hS hd1 hd2 hs hu HS h1
        go_wp2_with fail
        go_quiet (fail)
        go_wp2
        go_ret
        exact ⟨rfl, HB.out.trans ((Dag.below_drew _ _).mono HB.out.size)⟩
    · obtain rfl : k = n := by omega
      obtain rfl : r = true := by rw [← HS.out, List.drop_eq_nil_of_le (by rw [HN.out]; omega), List.drop_eq_nil_of_le (by rw [HK.out]; omega)]; simp
      go_wp2
      go_ret
      exact ⟨rfl, HB.out⟩

/-! isFree -/
theorem frc_any (S : List Int) (n : Nat) (hn : S.length = n) (x : Int) (hx : 0 ≤ x ∧ x < (n : Int)) (w : World) (SA : Option Addr) (sc bx : Nat) (hS : Ints w SA sc S) (hb : w.cell? ⟨bx, 0, none⟩ = some (.slice SA n sc)) :
    Calls Tryd.prog 71 #[.int .i64 x, .pointer (some ⟨bx, 0, none⟩)] w fun e w' => e = .returned (.bool (atI S x.toNat != 2)) ∧ Below w.heap.size w w' := by
  have hnl : n ≤ 9223372036854775807 := by rw [← hn]; exact ints_top hS
  obtain ⟨u, rfl⟩ : ∃ u : Nat, x = (u : Int) := ⟨x.toNat, by omega⟩
  have hu : u < n := by omega
  obtain ⟨b, off, y, rfl, hy, hc⟩ := hS.at_ (k := u) (by rw [hn]; exact hu)
  have HY := Lib.hid (show (atI S ((u : Int)).toNat != 2) = (y != 2) by rw [Int.toNat_natCast, atI_some hy])
  clear hS hy hn hx
  go_enter Tryd.func71, Tryd.ntmps71
  go_wp2
  go_ret
  exact ⟨by rw [HY.out]; rfl, Below.refl _ _⟩

set_option maxHeartbeats 1600000 in
theorem ixfree_any (S : List Int) (n : Nat) (hn : S.length = n) (l : List Int) (k : Nat) (hk : l.length = k) (w : World) (A : Option Addr) (c : Nat) (h : Ints w A c l) (hl : ∀ x ∈ l, 0 ≤ x ∧ x < (n : Int)) (SA : Option Addr) (sc bx : Nat) (hS : Ints w SA sc S) (hb : w.cell? ⟨bx, 0, none⟩ = some (.slice SA n sc)) :
    Calls Tryd.prog 68 #[.slice A k c, .func (.func 71) #[] #[.pointer (some ⟨bx, 0, none⟩)]] w fun e w' => e = .returned (.int .i64 (ixP (fun u => atI S u.toNat != 2) l)) ∧ Below w.heap.size w w' := by
  have hlm : k ≤ 9223372036854775807 := by rw [← hk]; exact ints_top h
  obtain ⟨P, hP⟩ : ∃ P : Int → Bool, P = fun u => atI S u.toNat != 2 := ⟨_, rfl⟩
  have CC := Lib.hid (show ∀ W (hW : Below w.heap.size w W) (x : Int) (hx : x ∈ l), Calls Tryd.prog 71 #[.int .i64 x, .pointer (some ⟨bx, 0, none⟩)] W fun e w' => e = .returned (.bool (P x)) ∧ Below W.heap.size W w' from fun W hW x hx => by rw [hP]; exact frc_any S n hn x (hl x hx) W SA sc bx (hS.below hW) (keep_cell hW hb))
  rw [← hP]
  have H := Lib.hid h
  have HK := Lib.hid hk
  clear h hk hP hS hb hl hn
  go_enter Tryd.func68, Tryd.ntmps68
  go_wp2
  go_loopw [8] (fun i wr => ∃ j : Nat, j ≤ k ∧ i = .int .i64 j ∧ Hid (Below w.heap.size w wr) ∧ Hid (∀ q t, q < j → l[q]? = some t → P t = false)) (fun i _ => k - (intOf i).toNat)
  case atStart => exact ⟨0, Nat.zero_le _, rfl, Lib.hid (Below.refl _ _), Lib.hid fun q t hq => by omega⟩
  case round =>
    obtain ⟨j, hj, rfl, HB, HI⟩ := hrel
    by_cases hlt : j < k
    · obtain ⟨b, off, s, rfl, hx, hc⟩ := (H.out.below HB.out).at_ (k := j) (by rw [HK.out]; exact hlt)
      cases hp : P s
      · have HN := Lib.hid (show ∀ q t, q < j + 1 → l[q]? = some t → P t = false from fun q t hq ht => by
          rcases Nat.lt_or_ge q j with h | h
          · exact HI.out q t h ht
          · obtain rfl : q = j := by omega
            rw [hx] at ht; injection ht with ht; subst ht; exact hp)
        have C1 := Lib.hid (CC.out _ HB.out s (List.mem_of_getElem? hx))
        clear hx
        go_wp2_with fail
        refine C1.out.mono ?_
        rintro e w1 ⟨rfl, hb1⟩
        rw [hp]
        have HB1 := Lib.hid (blw HB.out hb1)
        clear hp hb1
        go_wp2
        go_roundw
        case rel => exact ⟨j + 1, by omega, by go_num, HB1, HN⟩
        case measure => simp [intOf]; omega
      · have HN := Lib.hid (ix_hit hx hp HI.out)
        have C1 := Lib.hid (CC.out _ HB.out s (List.mem_of_getElem? hx))
        clear hx
        go_wp2_with fail
        refine C1.out.mono ?_
        rintro e w1 ⟨rfl, hb1⟩
        rw [hp]
        have HB1 := Lib.hid (blw HB.out hb1)
        clear hp hb1
        go_wp2
        go_ret
        exact ⟨by rw [HN.out]; rfl, HB1.out⟩
    · have HN := Lib.hid (ix_miss (p := P) (l := l) (fun q t hq ht => HI.out q t (by have := HK.out; omega) ht))
      obtain rfl : j = k := by omega
      go_wp2
      go_ret
      exact ⟨by rw [HN.out]; rfl, HB.out⟩

theorem any_free (S l : List Int) : (!l.any fun u => atI S u.toNat != 2) = freeD S l := by
  unfold freeD
  rw [List.not_any_eq_all_not]
  congr 1
  funext u
  simp [bne]
theorem conf_any (S : List Int) (n : Nat) (hn : S.length = n) (l : List Int) (k : Nat) (hk : l.length = k) (w : World) (A : Option Addr) (c : Nat) (h : Ints w A c l) (hl : ∀ x ∈ l, 0 ≤ x ∧ x < (n : Int)) (SA : Option Addr) (sc bx : Nat) (hS : Ints w SA sc S) (hb : w.cell? ⟨bx, 0, none⟩ = some (.slice SA n sc)) :
    Calls Tryd.prog 70 #[.slice A k c, .func (.func 71) #[] #[.pointer (some ⟨bx, 0, none⟩)]] w fun e w' => e = .returned (.bool (l.any fun u => atI S u.toNat != 2)) ∧ Below w.heap.size w w' := by
  rw [ix_any_iff]
  have C := Lib.hid (fun W (hW : Below w.heap.size w W) => ixfree_any S n hn l k hk W A c (h.below hW) hl SA sc bx (hS.below hW) (keep_cell hW hb))
  clear h hS hb hl hn hk
  go_enter Tryd.func70, Tryd.ntmps70
  go_wp2_with fail
  refine (C.out _ (Below.refl _ _)).mono ?_
  rintro e w1 ⟨rfl, hb1⟩
  go_wp2
  go_ret
  exact ⟨rfl, hb1⟩
set_option maxHeartbeats 1600000 in
theorem isFree_any (f : FlowD) (A : Option Addr) (c : Nat) (w : World) (h : Tasks w A c f.tasks) (S F : List Int) (SA FA : Option Addr) (n sc m fc : Nat) (hL : Lif w SA n sc FA m fc S F) (v : Nat) (t : TaskD) (ht : f.tasks[v]? = some t) (hl : ∀ x ∈ t.after, 0 ≤ x ∧ x < (n : Int)) (r : Bool) (hr : freeD S t.after = r) :
    Calls Tryd.prog 43 #[.agg #[.string (sb f.name), .int .i64 f.deadline, .int .i64 f.priority, .slice A f.tasks.length c], .agg #[.slice SA n sc, .slice FA m fc], .int .i64 (v : Int)] w fun e w' => e = .returned (.bool r) ∧ Below w.heap.size w w' := by
  have hlm := h.lenI
  have hvl := (List.getElem?_eq_some_iff.1 ht).1
  obtain ⟨b, off, A', c', rfl, h0, h1, h2, h3, h4, h5, hI⟩ := h.cells v _ ht
  have C := Lib.hid (fun W bx (hW : Below w.heap.size w W) (hb : W.cell? ⟨bx, 0, none⟩ = some (.slice SA n sc)) => conf_any S n hL.n t.after t.after.length rfl W A' c' (hI.below hW) hl SA sc bx (hL.s.below hW) hb)
  have HR := Lib.hid (show (!t.after.any fun u => atI S u.toNat != 2) = r by rw [any_free, hr])
  have hlb := World.block_lt_of_cell? w _ h5
  clear h hL hI hl hr ht h0 h1 h2 h3 h4
  go_enter Tryd.func43, Tryd.ntmps43
  go_wp2_with fail
  refine (C.out _ (w.heap.size + 1) (blw (al _ _) (al _ _)) (by simp)).mono ?_
  rintro e w1 ⟨rfl, hb1⟩
  go_wp2
  go_ret
  exact ⟨by rw [HR.out]; rfl, blw (blw (al _ _) (al _ _)) hb1⟩
end Go.Proofs.YtgejonmjmieglaaDoor.Lf

