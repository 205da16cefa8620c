/- Layer 13, of the document's: SameInts, Free, count, Links, doomed. -/
import Derived.Test.YtgejonmjmieglaaDoorLifG
import Derived.Test.YtgejonmjmieglaaDoorMChk
namespace Go.Proofs.YtgejonmjmieglaaDoor.Lf
open Go.RowKit
open Dag (Ints IRows Own1 OwnI Sl ints num info_int info_is arc Plus Tbl rowsB rowB)
set_option linter.unusedVariables false
set_option maxRecDepth 100000

set_option maxHeartbeats 800000 in
theorem rsame_any (l m : List Int) (A B : Option Addr) (n k c d : Nat) (hn : l.length = n) (hk : m.length = k) (w : World) (h : Ints w A c l) (h' : Ints w B d m) (r : Bool) (hr : decide (l = m) = r) :
    Calls Tryd.prog 15 #[.slice A n c, .slice B k d] w fun e w' => e = .returned (.bool r) ∧ Below w.heap.size w w' := by
  have hnl : n ≤ 9223372036854775807 := by rw [← hn]; exact ints_top h
  have hkl : k ≤ 9223372036854775807 := by rw [← hk]; exact ints_top h'
  have H1 := Lib.hid h; have H2 := Lib.hid h'; have HN := Lib.hid hn; have HK := Lib.hid hk; have HR := Lib.hid hr
  by_cases hnk : n = k
  case neg =>
    obtain rfl : r = false := by rw [← hr]; exact decide_eq_false fun e => hnk (by rw [← hn, ← hk, e])
    have hnb : ((n : Int) != (k : Int)) = true := by rw [bne_iff_ne]; omega
    clear h h' hn hk hr hnk
    go_enter Tryd.func15, Tryd.ntmps15
    go_wp2
    go_ret
    exact ⟨rfl, Below.refl _ _⟩
  subst hnk
  have hnb : ((n : Int) != (n : Int)) = false := by simp
  clear h h' hn hk hr
  go_enter Tryd.func15, Tryd.ntmps15
  go_wp2
  go_loopw [5] (fun i wr => ∃ k : Nat, k ≤ n ∧ i = .int .i64 k ∧ Hid (decide (l.drop k = m.drop k) = r) ∧ Hid (Below w.heap.size w wr)) (fun i _ => n - (intOf i).toNat)
  case atStart => exact ⟨0, Nat.zero_le _, rfl, HR, Lib.hid (Below.refl _ _)⟩
  case round =>
    obtain ⟨k, hk, rfl, HS, HB⟩ := hrel
    by_cases hlt : k < n
    · obtain ⟨b1, o1, s, e1, hs, c1⟩ := (H1.out.below HB.out).at_ (k := k) (by rw [HN.out]; exact hlt)
      obtain ⟨b2, o2, u, e2, hu, c3⟩ := (H2.out.below HB.out).at_ (k := k) (by rw [HK.out]; exact hlt)
      subst e1 e2
      have hd1 : l.drop k = s :: l.drop (k + 1) := by
        rw [List.drop_eq_getElem_cons (by rw [HN.out]; exact hlt), (List.getElem?_eq_some_iff.1 hs).2]
      have hd2 : m.drop k = u :: m.drop (k + 1) := by
        rw [List.drop_eq_getElem_cons (by rw [HK.out]; exact hlt), (List.getElem?_eq_some_iff.1 hu).2]
      have hS := HS.out
      rw [hd1, hd2] at hS
      by_cases h1 : s = u
      · subst h1
        have HS2 := Lib.hid (show decide (l.drop (k + 1) = m.drop (k + 1)) = r by rw [← hS]; simp)
        have hb : (s != s) = false := by simp
        clear hS hd1 hd2 hs hu HS
        go_wp2_with fail
        go_quiet (fail)
        go_wp2
        go_roundw
        case rel => exact ⟨k + 1, by omega, by go_num, HS2, Lib.hid (HB.out.trans ((Dag.below_drew _ _).mono HB.out.size))⟩
        case measure => simp [intOf]; omega
      · obtain rfl : r = false := by rw [← hS]; simp [h1]
        have hb : (s != u) = true := by rw [bne_iff_ne]; exact h1
        clear hS hd1 hd2 hs hu HS h1
        go_wp2_with fail
        go_quiet (fail)
        go_wp2
        go_ret
        exact ⟨rfl, HB.out.trans ((Dag.below_drew _ _).mono HB.out.size)⟩
    · obtain rfl : k = n := by omega
      obtain rfl : r = true := by rw [← HS.out, List.drop_eq_nil_of_le (by rw [HN.out]; omega), List.drop_eq_nil_of_le (by rw [HK.out]; omega)]; simp
      go_wp2
      go_ret
      exact ⟨rfl, HB.out⟩

theorem free_drop {S l : List Int} {j : Nat} {x : Int} (h : l[j]? = some x) : freeD S (l.drop j) = (atI S x.toNat == 2 && freeD S (l.drop (j + 1))) := by
  obtain ⟨hj, e⟩ := List.getElem?_eq_some_iff.1 h
  rw [List.drop_eq_getElem_cons hj, e]
  simp [freeD]
set_option maxHeartbeats 1600000 in
theorem rfree_any (f : FlowD) (A : Option Addr) (c : Nat) (w : World) (h : Tasks w A c f.tasks) (S F : List Int) (SA FA : Option Addr) (n sc m fc : Nat) (hL : Lif w SA n sc FA m fc S F) (v : Nat) (t : TaskD) (ht : f.tasks[v]? = some t) (hl : ∀ x ∈ t.after, 0 ≤ x ∧ x < (n : Int)) (r : Bool) (hr : freeD S t.after = r) :
    Calls Tryd.prog 27 #[.agg #[.string (sb f.name), .int .i64 f.deadline, .int .i64 f.priority, .slice A f.tasks.length c], .agg #[.slice SA n sc, .slice FA m fc], .int .i64 (v : Int)] w fun e w' => e = .returned (.bool r) ∧ Below w.heap.size w w' := by
  have hlm := h.lenI
  have hvl := (List.getElem?_eq_some_iff.1 ht).1
  have hnl : n ≤ 9223372036854775807 := by rw [← hL.n]; exact ints_top hL.s
  obtain ⟨b, off, A', c', rfl, h0, h1, h2, h3, h4, h5, hI⟩ := h.cells v _ ht
  have HS := Lib.hid hL.s
  have HSN := Lib.hid hL.n
  have HI := Lib.hid hI
  have HL := Lib.hid hl
  have HR := Lib.hid hr
  have hal := ints_top hI
  have hlb := World.block_lt_of_cell? w _ h5
  clear h hL hI hl hr ht h0 h1 h2 h3 h4
  go_enter Tryd.func27, Tryd.ntmps27
  go_wp2_with fail
  have HB0 := Lib.hid (ba2 (b := 0) (w := w) (o := flowO f (some ⟨b, off, none⟩) c) (p := lifO SA n sc FA m fc) (Below.refl _ _))
  have s0 := two_boxes f (some ⟨b, off, none⟩) c SA FA n sc m fc w
  have x0 := s0.2.2.2.2.1
  have HX0 := Lib.hid x0
  clear s0 x0
  go_loopw [8] (fun i wr => ∃ j : Nat, j ≤ t.after.length ∧ i = .int .i64 j ∧ Hid (freeD S (t.after.drop j) = r) ∧ Hid (Below w.heap.size w wr) ∧ Hid (wr.cell? ⟨w.heap.size + 1, 0, none⟩ = some (.slice SA n sc))) (fun i _ => t.after.length - (intOf i).toNat)
  case atStart => exact ⟨0, Nat.zero_le _, rfl, HR, HB0, HX0⟩
  case round =>
    obtain ⟨j, hj, rfl, HF, HB, HX⟩ := hrel
    have x0 := HX.out
    by_cases hlt : j < t.after.length
    · obtain ⟨b1, o1, x, rfl, hx, c1⟩ := (HI.out.below HB.out).at_ hlt
      have hxr := HL.out x (List.mem_of_getElem? hx)
      obtain ⟨q, rfl⟩ : ∃ q : Nat, x = (q : Int) := ⟨x.toNat, by omega⟩
      have hq : q < n := by omega
      obtain ⟨b2, o2, s, rfl, hs, c2⟩ := (HS.out.below HB.out).at_ (k := q) (by rw [HSN.out]; exact hq)
      have hfd := HF.out
      rw [free_drop hx, Int.toNat_natCast, atI_some hs] at hfd
      by_cases hs2 : s = 2
      · subst hs2
        have HF2 := Lib.hid (show freeD S (t.after.drop (j + 1)) = r by rw [← hfd]; simp)
        clear hfd hx hs hxr
        go_wp2_with fail
        try go_quiet (fail)
        go_wp2
        go_roundw
        case rel => exact ⟨j + 1, by omega, by go_num, HF2, by first | exact HB | exact Lib.hid (HB.out.trans ((Dag.below_drew _ _).mono HB.out.size)), by first | exact HX | exact Lib.hid HX.out⟩
        case measure => simp [intOf]; omega
      · have hb : (s != 2) = true := by rw [bne_iff_ne]; exact hs2
        have hrf : r = false := by rw [← hfd]; simp [hs2]
        subst hrf
        clear hfd hx hs hs2 hxr
        go_wp2_with fail
        try go_quiet (fail)
        go_wp2
        go_ret
        exact ⟨rfl, by first | exact HB.out | exact HB.out.trans ((Dag.below_drew _ _).mono HB.out.size)⟩
    · obtain rfl : j = t.after.length := by omega
      have hrt : r = true := by rw [← HF.out, List.drop_eq_nil_of_le (Nat.le_refl _)]; rfl
      subst hrt
      go_wp2
      go_ret
      exact ⟨rfl, HB.out⟩

def cntS (S : List Int) (st : Int) (k : Nat) : Nat := ((List.range k).filter fun v => decide (atI S v ∈ [st])).length
theorem cnt_all (S : List Int) (st : Int) : cntS S st S.length = (standL S [st]).length := rfl
theorem cnt_next (S : List Int) (st : Int) (k : Nat) : cntS S st (k + 1) = cntS S st k + if atI S k = st then 1 else 0 := by
  unfold cntS
  rw [stand_snoc, List.length_append]
  by_cases h : atI S k = st <;> simp [h]
theorem cnt_le (S : List Int) (st : Int) (k : Nat) : cntS S st k ≤ k := by
  unfold cntS
  exact Nat.le_trans (List.length_filter_le _ _) (by simp)
set_option maxHeartbeats 1600000 in
theorem rcount_any (w : World) (S F : List Int) (SA FA : Option Addr) (n sc m fc : Nat) (hL : Lif w SA n sc FA m fc S F) (st : Int) :
    Calls Tryd.prog 45 #[.agg #[.slice SA n sc, .slice FA m fc], .int .i64 st] w fun e w' => e = .returned (.int .i64 ((standL S [st]).length : Int)) ∧ Below w.heap.size w w' := by
  have hnl : n ≤ 9223372036854775807 := by rw [← hL.n]; exact ints_top hL.s
  have HS := Lib.hid hL.s
  have HN := Lib.hid hL.n
  clear hL
  go_enter Tryd.func45, Tryd.ntmps45
  go_wp2_with fail
  have HB0 := Lib.hid (ba1 (b := 0) (w := w) (o := lifO SA n sc FA m fc) (Below.refl _ _))
  have HX0 := Lib.hid (show (w.alloc (lifO SA n sc FA m fc)).cell? ⟨w.heap.size, 0, none⟩ = some (.slice SA n sc) from (Dag.blk_cell (heap_alloc_new w (lifO SA n sc FA m fc)) 0).trans rfl)
  go_loopw [5, 6] (fun q i wr => ∃ j : Nat, j ≤ n ∧ i = .int .i64 j ∧ q = .int .i64 (cntS S st j) ∧ Hid (Below w.heap.size w wr) ∧ Hid (wr.cell? ⟨w.heap.size, 0, none⟩ = some (.slice SA n sc))) (fun _ i _ => n - (intOf i).toNat)
  case atStart => exact ⟨0, Nat.zero_le _, rfl, rfl, HB0, HX0⟩
  case round =>
    obtain ⟨j, hj, rfl, rfl, HB, HX⟩ := hrel
    have x0 := HX.out
    have hcl := cnt_le S st j
    by_cases hlt : j < n
    · obtain ⟨b2, o2, s, rfl, hs, c2⟩ := (HS.out.below HB.out).at_ (k := j) (by rw [HN.out]; exact hlt)
      have hcn := cnt_next S st j
      rw [atI_some hs] at hcn
      by_cases h2 : s = st
      · subst h2
        rw [if_pos rfl] at hcn
        have HCN := Lib.hid hcn
        have hb : (s == s) = true := by simp
        obtain ⟨q, hq⟩ : ∃ q, cntS S s j = q := ⟨_, rfl⟩
        rw [hq] at HCN hcl ⊢
        clear hcn hs hq
        go_wp2_with fail
        try go_quiet (fail)
        go_wp2
        go_roundw
        case rel => exact ⟨j + 1, by omega, by go_num, by rw [HCN.out]; go_num, by first | exact HB | exact Lib.hid (HB.out.trans ((Dag.below_drew _ _).mono HB.out.size)), by first | exact HX | exact Lib.hid HX.out⟩
        case measure => simp [intOf]; omega
      · rw [if_neg h2, Nat.add_zero] at hcn
        have HCN := Lib.hid hcn
        have hb : (s == st) = false := by rw [beq_eq_false_iff_ne]; exact h2
        clear hcn hs h2
        go_wp2_with fail
        try go_quiet (fail)
        go_wp2
        go_roundw
        case rel => exact ⟨j + 1, by omega, by go_num, by rw [HCN.out]; rfl, by first | exact HB | exact Lib.hid (HB.out.trans ((Dag.below_drew _ _).mono HB.out.size)), by first | exact HX | exact Lib.hid HX.out⟩
        case measure => simp [intOf]; omega
    · obtain rfl : j = n := by omega
      have HF := Lib.hid (show cntS S st j = (standL S [st]).length by rw [← HN.out]; rfl)
      go_wp2
      go_ret
      exact ⟨by rw [← HF.out]; rfl, HB.out⟩
end Go.Proofs.YtgejonmjmieglaaDoor.Lf

