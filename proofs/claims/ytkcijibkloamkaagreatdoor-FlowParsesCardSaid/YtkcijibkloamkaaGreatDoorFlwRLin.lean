/- The document's Line. -/
import Derived.Test.YtkcijibkloamkaaGreatDoorFlwRNum
import Derived.Test.YtkcijibkloamkaaGreatDoorFlwCls
namespace Go.Proofs.YtkcijibkloamkaaGreatDoor
open Go.RowKit
open Txt (sameS lowL)
open Dag (Own1 Sl)
set_option linter.unusedVariables false
set_option maxRecDepth 100000

theorem same_comm (a b : List UInt8) : sameS a b = sameS b a := by
  unfold sameS
  rw [Bool.eq_iff_iff, beq_iff_eq, beq_iff_eq]
  exact eq_comm
/-- two keywords are never one word -/
theorem kw_one {h : List UInt8} {j k : Nat} (hj : j < 9) (hk : k < 9) (ej : sameS h (kwB j) = true) (ek : sameS h (kwB k) = true) : j = k := by
  unfold sameS at ej ek
  rw [beq_iff_eq] at ej ek
  have e : lowL (kwB j) = lowL (kwB k) := by rw [← ej, ← ek]
  have : ∀ j, j < 9 → ∀ k, k < 9 → lowL (kwB j) = lowL (kwB k) → j = k := by decide +kernel
  exact this j hj k hk e
theorem key_some {h : List UInt8} {k : Nat} (hk : k < 9) (e : sameS h (kwB k) = true) : keyOf? h = some k := by
  unfold keyOf?
  rw [List.find?_eq_some_iff_getElem]
  refine ⟨by unfold isKw; rw [same_comm]; exact e, k, by simpa using hk, by simp, fun j hj => ?_⟩
  simp only [List.getElem_range]
  unfold isKw
  cases hs : sameS (kwB j) h with
  | false => rfl
  | true =>
    rw [same_comm] at hs
    exact absurd (kw_one (by omega) hk hs e) (by omega)
theorem key_none {h : List UInt8} (e : ∀ k, k < 9 → sameS h (kwB k) = false) : keyOf? h = none := by
  unfold keyOf?
  rw [List.find?_eq_none]
  intro k hk
  unfold isKw
  rw [same_comm, e k (by simpa using hk)]
  simp
def oneK : Nat → Nat
  | 0 => 0 | 1 => 1 | 2 => 2 | 3 => 3 | 4 => 7 | _ => 0
def twoK : Nat → Nat
  | 0 => 4 | 1 => 5 | 2 => 6 | _ => 4
theorem cls_one {h : List UInt8} {t : List (List UInt8)} {k : Nat} (hk : k < 5) (ht : t.length = 1) (e : sameS h (kwB (oneK k)) = true) : classD h t = some (oneK k, t) := by
  have : oneK k < 9 ∧ oneK k ≠ 8 ∧ wordsN (oneK k) = 1 := by
    have : ∀ k, k < 5 → oneK k < 9 ∧ oneK k ≠ 8 ∧ wordsN (oneK k) = 1 := by decide
    exact this k hk
  unfold classD
  rw [key_some this.1 e]
  split
  · rename_i h2; cases h2
  · rename_i h2; injection h2 with h2; exact absurd h2 this.2.1
  · rename_i k2 _ h2
    injection h2 with h2
    subst h2
    rw [if_pos (by rw [this.2.2, ht]; rfl)]
theorem cls_two {h : List UInt8} {t : List (List UInt8)} {k : Nat} (hk : k < 3) (ht : t.length = 2) (e : sameS h (kwB (twoK k)) = true) : classD h t = some (twoK k, t) := by
  have : twoK k < 9 ∧ twoK k ≠ 8 ∧ wordsN (twoK k) = 2 := by
    have : ∀ k, k < 3 → twoK k < 9 ∧ twoK k ≠ 8 ∧ wordsN (twoK k) = 2 := by decide
    exact this k hk
  unfold classD
  rw [key_some this.1 e]
  split
  · rename_i h2; cases h2
  · rename_i h2; injection h2 with h2; exact absurd h2 this.2.1
  · rename_i k2 _ h2
    injection h2 with h2
    subst h2
    rw [if_pos (by rw [this.2.2, ht]; rfl)]
theorem cls_par {h : List UInt8} {t : List (List UInt8)} (e : sameS h (kwB 8) = true) : classD h t = (famD t).map fun x => (8, x) := by
  unfold classD
  rw [key_some (by decide) e]
  rfl
theorem cls_no {h : List UInt8} {t : List (List UInt8)} (h1 : t.length = 1 → ∀ k, k < 5 → sameS h (kwB (oneK k)) = false) (h2 : t.length = 2 → ∀ k, k < 3 → sameS h (kwB (twoK k)) = false) (h8 : sameS h (kwB 8) = false) : classD h t = none := by
  unfold classD
  split
  · rfl
  · rename_i hk
    have := List.find?_some hk
    unfold isKw at this
    rw [same_comm, h8] at this
    cases this
  · rename_i k hk hk2
    have h3 := List.find?_some hk2
    have h4 := List.mem_of_find?_eq_some hk2
    unfold isKw at h3
    rw [same_comm] at h3
    have h5 : k < 9 := by simpa using h4
    split
    · rename_i hw
      have : ∀ k, k < 9 → k ≠ 8 → (wordsN k = 1 ∧ ∃ i, i < 5 ∧ oneK i = k) ∨ (wordsN k = 2 ∧ ∃ i, i < 3 ∧ twoK i = k) := by
        intro k hk hk8
        match k, hk, hk8 with
        | 0, _, _ => exact Or.inl ⟨rfl, 0, by decide, rfl⟩
        | 1, _, _ => exact Or.inl ⟨rfl, 1, by decide, rfl⟩
        | 2, _, _ => exact Or.inl ⟨rfl, 2, by decide, rfl⟩
        | 3, _, _ => exact Or.inl ⟨rfl, 3, by decide, rfl⟩
        | 4, _, _ => exact Or.inr ⟨rfl, 0, by decide, rfl⟩
        | 5, _, _ => exact Or.inr ⟨rfl, 1, by decide, rfl⟩
        | 6, _, _ => exact Or.inr ⟨rfl, 2, by decide, rfl⟩
        | 7, _, _ => exact Or.inl ⟨rfl, 4, by decide, rfl⟩
        | 8, _, h => exact absurd rfl h
        | k + 9, h, _ => omega
      rcases this k h5 (fun e => hk (by rw [← e])) with ⟨a, i, hi, ei⟩ | ⟨a, i, hi, ei⟩
      · have := h1 (by rw [a] at hw; omega) i hi
        rw [ei, h3] at this; cases this
      · have := h2 (by rw [a] at hw; omega) i hi
        rw [ei, h3] at this; cases this
    · rfl

/-! the words of a PARENT line -/
def upW (s : List UInt8) : List UInt8 := if isChild s then childW else s
def cntC (t : List (List UInt8)) : Nat := (t.filter isChild).length
theorem child_is : isChild childW = true := by decide +kernel
theorem upW_child {s : List UInt8} : upW s = childW ↔ isChild s = true := by
  unfold upW
  split
  · rename_i h; exact ⟨fun _ => h, fun _ => rfl⟩
  · rename_i h
    constructor
    · intro e; rw [e] at h; exact absurd child_is h
    · intro e; exact absurd e h
theorem cnt_split : ∀ (t : List (List UInt8)), t.any isChild = true → cntC t = 1 + cntC (t.drop (t.findIdx isChild + 1))
  | [], h => by cases h
  | s :: t, h => by
    unfold cntC
    cases hs : isChild s with
    | true =>
      rw [List.findIdx_cons, hs, List.filter_cons_of_pos hs]
      simp; omega
    | false =>
      have ht : t.any isChild = true := by simpa [hs] using h
      have ih := cnt_split t ht
      unfold cntC at ih
      rw [List.findIdx_cons, hs, List.filter_cons_of_neg (by simp [hs])]
      simpa using ih
theorem cnt_zero_any (t : List (List UInt8)) : cntC t = 0 ↔ t.any isChild = false := by
  unfold cntC
  rw [List.length_eq_zero_iff, List.filter_eq_nil_iff, List.any_eq_false]
theorem fam_iff {t : List (List UInt8)} : famD t = if cntC t = 1 ∧ (∀ s, t[0]? = some s → upW s ≠ childW) ∧ (∀ s, t[t.length - 1]? = some s → upW s ≠ childW) then some (t.map upW) else none := by
  unfold famD
  by_cases ha : t.any isChild = true
  · have hc := cnt_split t ha
    have hlt : t.findIdx isChild < t.length := by
      rw [List.findIdx_lt_length]
      simpa using ha
    obtain ⟨i, hi⟩ : ∃ i, t.findIdx isChild = i := ⟨_, rfl⟩
    have hci : isChild t[i] = true := by
      have := @List.findIdx_getElem _ isChild t hlt
      simpa [hi] using this
    have hbef : ∀ j (hj : j < i), isChild (t[j]'(by omega)) = false := fun j hj => by
      have := List.not_of_lt_findIdx (p := isChild) (xs := t) (i := j) (by omega)
      simpa using this
    rw [hi] at hc hlt ⊢
    simp only []
    by_cases hr : (t.drop (i + 1)).any isChild = true
    · rw [if_pos (Or.inr (Or.inr hr)), if_neg]
      rintro ⟨h1, _⟩
      have : cntC (t.drop (i + 1)) = 0 := by omega
      rw [(cnt_zero_any _).1 this] at hr; cases hr
    · have hr0 : (t.drop (i + 1)).any isChild = false := by simpa using hr
      have hc1 : cntC t = 1 := by rw [hc, (cnt_zero_any _).2 hr0]
      by_cases h0 : i = 0
      · rw [if_pos (Or.inl h0), if_neg]
        rintro ⟨_, h2, _⟩
        subst h0
        exact h2 t[0] (List.getElem?_eq_getElem (by omega)) (upW_child.2 hci)
      · by_cases hl : t.length ≤ i + 1
        · rw [if_pos (Or.inr (Or.inl hl)), if_neg]
          rintro ⟨_, _, h3⟩
          have e : t.length - 1 = i := by omega
          rw [e] at h3
          exact h3 t[i] (List.getElem?_eq_getElem (by omega)) (upW_child.2 hci)
        · rw [if_neg (by rintro (h | h | h); exact h0 h; exact hl h; exact hr h), if_pos]
          · congr 1
            apply List.ext_getElem
            · simp
            · intro j h1 h2
              rw [List.getElem_set, List.getElem_map]
              split
              · rename_i e; subst e; rw [(upW_child).2 hci]
              · rename_i e
                have hjt : j < t.length := by simpa using h2
                have : isChild t[j] = false := by
                  rcases Nat.lt_or_ge j i with a | a
                  · exact hbef j a
                  · have hm : t[j] ∈ t.drop (i + 1) := by
                      rw [List.mem_iff_getElem]
                      exact ⟨j - (i + 1), by rw [List.length_drop]; omega, by rw [List.getElem_drop]; congr 1; omega⟩
                    have := List.any_eq_false.1 hr0 _ hm
                    simpa using this
                unfold upW; rw [this]; rfl
          · refine ⟨hc1, fun s hs e => ?_, fun s hs e => ?_⟩
            · have h2 := upW_child.1 e
              have h3 := hbef 0 (by omega)
              rw [List.getElem?_eq_getElem (by omega)] at hs
              injection hs with hs
              rw [hs, h2] at h3; cases h3
            · have h2 := upW_child.1 e
              have hm : s ∈ t.drop (i + 1) := by
                rw [List.mem_iff_getElem?]
                exact ⟨t.length - 1 - (i + 1), by rw [List.getElem?_drop, ← hs]; congr 1; omega⟩
              have := List.any_eq_false.1 hr0 _ hm
              exact this h2
  · have ha0 : t.any isChild = false := by simpa using ha
    have h0 := (cnt_zero_any t).2 ha0
    have hfi : t.findIdx isChild = t.length := List.findIdx_eq_length.2 fun x hx => by simpa using List.any_eq_false.1 ha0 x hx
    rw [if_pos (Or.inr (Or.inl (by omega))), if_neg (by omega)]

/-! the walk -/
def ones : Array Value := #[.string (sb (kwB 0)), .string (sb (kwB 1)), .string (sb (kwB 2)), .string (sb (kwB 3)), .string (sb (kwB 7))]
def twos : Array Value := #[.string (sb (kwB 4)), .string (sb (kwB 5)), .string (sb (kwB 6))]
theorem ones_get {k : Nat} (hk : k < 5) : ones[k]? = some (.string (sb (kwB (oneK k)))) := by
  match k, hk with
  | 0, _ => rfl
  | 1, _ => rfl
  | 2, _ => rfl
  | 3, _ => rfl
  | 4, _ => rfl
theorem twos_get {k : Nat} (hk : k < 3) : twos[k]? = some (.string (sb (kwB (twoK k)))) := by
  match k, hk with
  | 0, _ => rfl
  | 1, _ => rfl
  | 2, _ => rfl
theorem kw_len (k : Nat) : (kwB k).length ≤ 9000000000000000000 := by
  match k with
  | 0 | 1 | 2 | 3 | 4 | 5 | 6 | 7 | 8 => decide
  | k + 9 => simp [kwB]
theorem ret_some {h : List UInt8} {t : List (List UInt8)} {k : Nat} {x : List (List UInt8)} {w w' : World} {A : Option Addr} {n c : Nat} (hc : classD h t = some (k, x)) (hn : x.length = n) (hb : Below w.heap.size w w') (hW : Words w' A c x) :
    RetLine (h :: t) w (.returned (.tuple #[.string (sb (kwB k)), .slice A n c, .int .i64 0])) w' := by
  subst hn
  refine ⟨hb, A, c, ?_, ?_⟩
  · simp only [lineKw, lineWs, lineE, hc]
  · simp only [lineWs, hc]; exact hW
theorem ret_none {h : List UInt8} {t : List (List UInt8)} {w w' : World} (hc : classD h t = none) (hb : Below w.heap.size w w') :
    RetLine (h :: t) w (.returned (.tuple #[.string (sb []), .slice none 0 0, .int .i64 50])) w' := by
  refine ⟨hb, none, 0, ?_, ?_⟩
  · simp only [lineKw, lineWs, lineE, hc]; rfl
  · simp only [lineWs, hc]; exact Sl.empty _
theorem upW_len {s : List UInt8} (h : s.length ≤ 9000000000000000000) : (upW s).length ≤ 9000000000000000000 := by
  unfold upW; split
  · decide
  · exact h
theorem take_snoc_map {k : Nat} {t : List (List UInt8)} {s : List UInt8} (h : t[k]? = some s) : (t.take (k + 1)).map upW = (t.take k).map upW ++ [upW s] := by
  rw [List.take_add_one, h]; simp
theorem cnt_snoc {k : Nat} {t : List (List UInt8)} {s : List UInt8} (h : t[k]? = some s) : cntC (t.take (k + 1)) = cntC (t.take k) + (if isChild s then 1 else 0) := by
  unfold cntC
  rw [List.take_add_one, h]
  simp only [Option.toList_some, List.filter_append, List.length_append]
  congr 1
  cases hs : isChild s <;> simp [hs]
theorem cnt_le (t : List (List UInt8)) : cntC t ≤ t.length := List.length_filter_le _ _

set_option maxHeartbeats 6400000 in
theorem rline_any (l : List (List UInt8)) (n : Nat) (hn : l.length = n) (w : World) (A : Option Addr) (c : Nat) (hW : Words w A c l) (hs : ∀ s ∈ l, s.length ≤ 9000000000000000000) (hm : n ≤ 8796093022207) :
    Calls Tryz.prog 82 #[.slice A n c] w (RetLine l w) := by
  subst hn
  cases l with
  | nil =>
    clear hW hs hm
    go_enter Tryz.func82, Tryz.ntmps82
    go_wp2
    go_ret3
    exact ⟨Below.refl _ _, none, 0, rfl, Sl.empty _⟩
  | cons h t =>
    rw [List.length_cons] at hm ⊢
    have hne : ((t.length : Int) + 1 == 0) = false := by rw [beq_eq_false_iff_ne]; omega
    obtain ⟨b, off, s, eA, hx, hc0⟩ := hW.at_ (k := 0) (by simp)
    rw [List.getElem?_cons_zero] at hx
    injection hx with hx
    subst hx
    rw [Nat.add_zero] at hc0
    have hsh := hs h (by simp)
    have HST := Lib.hid (show ∀ s ∈ t, s.length ≤ 9000000000000000000 from fun s hm => hs s (by simp [hm]))
    have hcut := run_cut_l A (t.length + 1) c 1 .i64 1 rfl (by omega)
    have HC := Lib.hid (show Words w (cutA A c 1) (c - 1) t from by have := hW.cut (k := 1) (by simp); simpa using this)
    have HW := Lib.hid hW
    have hsz : t.length + 1 - 1 = t.length := by omega
    rw [hsz] at hcut
    have hw2 : IntKind.i64.wrap (((t.length + 1 : Nat) : Int) - 1) = (t.length : Int) := by rw [IntKind.wrap_i64]; omega
    have HC0 := Lib.hid hc0
    clear hs hW hsz hc0
    subst eA
    go_enter Tryz.func82, Tryz.ntmps82
    go_wp2_with fail
    generalize eW0 : World.alloc (World.alloc w _) _ = W0
    have HT1 : Hid (W0.heap[w.heap.size]? = some (.cells ones 9 (0, 0))) := Lib.hid (by rw [← eW0]; exact keep_obj (al _ _) (heap_alloc_new w _))
    have HT2 : Hid (W0.heap[w.heap.size + 1]? = some (.cells twos 9 (0, 0))) := Lib.hid (by rw [← eW0]; exact alloc_at (by simp))
    have HB0 : Hid (Below w.heap.size w W0) := Lib.hid (by rw [← eW0]; exact blw (al _ _) (al _ _))
    clear eW0
    generalize eT1 : w.heap.size = T1 at HT1 ⊢
    have eT2 : w.heap.size + 1 = T1 + 1 := by rw [eT1]
    rw [eT2] at HT2
    generalize T1 + 1 = T2 at HT2 ⊢
    clear eT2
    go_loopw [7] (fun i wr => ∃ (k : Nat), k ≤ 5 ∧ i = .int .i64 k ∧ Hid (Below W0.heap.size W0 wr) ∧ Hid (t.length = 1 → ∀ j, j < k → sameS h (kwB (oneK j)) = false)) (fun i _ => 5 - (intOf i).toNat)
    case atStart => exact ⟨0, Nat.zero_le _, rfl, Lib.hid (Below.refl _ _), Lib.hid fun _ j hj => by omega⟩
    case round =>
      obtain ⟨k, hk, rfl, HB, HN⟩ := hrel
      by_cases hlt : k < 5
      · by_cases h1 : t.length = 1
        · have g2 : ((t.length : Int) + 1 == 2) = true := by rw [h1]; rfl
          have cb := keep_cell HB.out (keep_cell HB0.out HC0.out)
          have ck := (Dag.blk_cell (keep_obj HB.out HT1.out) k).trans (ones_get hlt)
          have s0 : wr.drew.cell? ⟨b, off, none⟩ = some (.string (sb h)) ∧ wr.drew.cell? ⟨T1, k, none⟩ = some (.string (sb (kwB (oneK k)))) := ⟨cb, ck⟩
          have CI := Lib.hid (ris6_any h (kwB (oneK k)) wr.drew hsh (kw_len _))
          have H1 := Lib.hid h1
          have hlb := World.block_lt_of_cell? wr _ cb
          have hlk := World.block_lt_of_cell? wr _ ck
          clear cb ck h1
          cases hr : sameS h (kwB (oneK k))
          · rw [hr] at CI
            have HR := Lib.hid hr; clear hr
            go_wp2_with fail
            go_region_held3 (fun (W : World) => W.cell? ⟨b, off, none⟩ = some (.string (sb h)) ∧ W.cell? ⟨T1, k, none⟩ = some (.string (sb (kwB (oneK k))))) (first | exact s0 | exact s1) (first
              | (go_at_call 84; refine CI.out.mono ?_; rintro e x1 ⟨rfl, hb1⟩; have s1 : x1.cell? ⟨b, off, none⟩ = some (.string (sb h)) ∧ x1.cell? ⟨T1, k, none⟩ = some (.string (sb (kwB (oneK k)))) := ⟨keep_cell hb1 s0.1, keep_cell hb1 s0.2⟩; have HQ1 := Lib.hid (blw HB.out (blw (drew_below wr) hb1)); clear hb1))
            all_goals go_wp2
            all_goals go_roundw
            case rel => exact ⟨k + 1, by omega, by go_num, HQ1, Lib.hid fun hh j hj => by
              rcases Nat.lt_or_ge j k with a | a
              · exact HN.out hh j a
              · have : j = k := by omega
                rw [this]; exact HR.out⟩
            case measure => simp [intOf]; omega
          · rw [hr] at CI
            have HCL := Lib.hid (cls_one hlt H1.out hr); clear hr
            go_wp2_with fail
            go_region_held3 (fun (W : World) => W.cell? ⟨b, off, none⟩ = some (.string (sb h)) ∧ W.cell? ⟨T1, k, none⟩ = some (.string (sb (kwB (oneK k))))) (first | exact s0 | exact s1) (first
              | (go_at_call 84; refine CI.out.mono ?_; rintro e x1 ⟨rfl, hb1⟩; have s1 : x1.cell? ⟨b, off, none⟩ = some (.string (sb h)) ∧ x1.cell? ⟨T1, k, none⟩ = some (.string (sb (kwB (oneK k)))) := ⟨keep_cell hb1 s0.1, keep_cell hb1 s0.2⟩; have HQ1 := Lib.hid (blw HB.out (blw (drew_below wr) hb1)); have hlx := World.block_lt_of_cell? x1 _ s1.2; have c1 := s1.2; clear hb1))
            all_goals go_wp2
            all_goals go_quiet (fail)
            all_goals go_wp2
            all_goals go_ret3
            all_goals exact ret_some HCL.out rfl (blw HB0.out (blw HQ1.out (Dag.Quiet.drew _ _).below)) (HC.out.below (blw HB0.out (blw HQ1.out (Dag.Quiet.drew _ _).below)))
        · have g2 : ((t.length : Int) + 1 == 2) = false := by rw [beq_eq_false_iff_ne]; omega
          have H1 := Lib.hid h1; clear h1
          go_wp2
          go_quiet (fail)
          go_wp2
          go_roundw
          case rel => exact ⟨k + 1, by omega, by go_num, Lib.hid (blw HB.out (Dag.Quiet.drew _ _).below), Lib.hid fun hh => absurd hh H1.out⟩
          case measure => simp [intOf]; omega
      · obtain rfl : k = 5 := by omega
        rw [show ((5 : Nat) : Int) = 5 from rfl]
        have HN1 := Lib.hid HN.out
        clear HN
        clear hlt
        go_wp2_with fail
        go_loopw [8] (fun i wr => ∃ (k : Nat), k ≤ 3 ∧ i = .int .i64 k ∧ Hid (Below W0.heap.size W0 wr) ∧ Hid (t.length = 2 → ∀ j, j < k → sameS h (kwB (twoK j)) = false)) (fun i _ => 3 - (intOf i).toNat)
        case atStart => exact ⟨0, Nat.zero_le _, rfl, HB, Lib.hid fun _ j hj => by omega⟩
        case round =>
          obtain ⟨k, hk, rfl, HB, HN⟩ := hrel
          by_cases hlt : k < 3
          · by_cases h1 : t.length = 2
            · have g2 : ((t.length : Int) + 1 == 3) = true := by rw [h1]; rfl
              have cb := keep_cell HB.out (keep_cell HB0.out HC0.out)
              have ck := (Dag.blk_cell (keep_obj HB.out HT2.out) k).trans (twos_get hlt)
              have s0 : wr.drew.cell? ⟨b, off, none⟩ = some (.string (sb h)) ∧ wr.drew.cell? ⟨T2, k, none⟩ = some (.string (sb (kwB (twoK k)))) := ⟨cb, ck⟩
              have CI := Lib.hid (ris6_any h (kwB (twoK k)) wr.drew hsh (kw_len _))
              have H1 := Lib.hid h1
              have hlb := World.block_lt_of_cell? wr _ cb
              have hlk := World.block_lt_of_cell? wr _ ck
              clear cb ck h1
              cases hr : sameS h (kwB (twoK k))
              · rw [hr] at CI
                have HR := Lib.hid hr; clear hr
                go_wp2_with fail
                go_region_held3 (fun (W : World) => W.cell? ⟨b, off, none⟩ = some (.string (sb h)) ∧ W.cell? ⟨T2, k, none⟩ = some (.string (sb (kwB (twoK k))))) (first | exact s0 | exact s1) (first
                  | (go_at_call 84; refine CI.out.mono ?_; rintro e x1 ⟨rfl, hb1⟩; have s1 : x1.cell? ⟨b, off, none⟩ = some (.string (sb h)) ∧ x1.cell? ⟨T2, k, none⟩ = some (.string (sb (kwB (twoK k)))) := ⟨keep_cell hb1 s0.1, keep_cell hb1 s0.2⟩; have HQ1 := Lib.hid (blw HB.out (blw (drew_below wr) hb1)); clear hb1))
                all_goals go_wp2
                all_goals go_roundw
                case rel => exact ⟨k + 1, by omega, by go_num, HQ1, Lib.hid fun hh j hj => by
                  rcases Nat.lt_or_ge j k with a | a
                  · exact HN.out hh j a
                  · have : j = k := by omega
                    rw [this]; exact HR.out⟩
                case measure => simp [intOf]; omega
              · rw [hr] at CI
                have HCL := Lib.hid (cls_two hlt H1.out hr); clear hr
                go_wp2_with fail
                go_region_held3 (fun (W : World) => W.cell? ⟨b, off, none⟩ = some (.string (sb h)) ∧ W.cell? ⟨T2, k, none⟩ = some (.string (sb (kwB (twoK k))))) (first | exact s0 | exact s1) (first
                  | (go_at_call 84; refine CI.out.mono ?_; rintro e x1 ⟨rfl, hb1⟩; have s1 : x1.cell? ⟨b, off, none⟩ = some (.string (sb h)) ∧ x1.cell? ⟨T2, k, none⟩ = some (.string (sb (kwB (twoK k)))) := ⟨keep_cell hb1 s0.1, keep_cell hb1 s0.2⟩; have HQ1 := Lib.hid (blw HB.out (blw (drew_below wr) hb1)); have hlx := World.block_lt_of_cell? x1 _ s1.2; have c1 := s1.2; clear hb1))
                all_goals go_wp2
                all_goals go_quiet (fail)
                all_goals go_wp2
                all_goals go_ret3
                all_goals exact ret_some HCL.out rfl (blw HB0.out (blw HQ1.out (Dag.Quiet.drew _ _).below)) (HC.out.below (blw HB0.out (blw HQ1.out (Dag.Quiet.drew _ _).below)))
            · have g2 : ((t.length : Int) + 1 == 3) = false := by rw [beq_eq_false_iff_ne]; omega
              have H1 := Lib.hid h1; clear h1
              go_wp2
              go_quiet (fail)
              go_wp2
              go_roundw
              case rel => exact ⟨k + 1, by omega, by go_num, Lib.hid (blw HB.out (Dag.Quiet.drew _ _).below), Lib.hid fun hh => absurd hh H1.out⟩
              case measure => simp [intOf]; omega
          · obtain rfl : k = 3 := by omega
            rw [show ((3 : Nat) : Int) = 3 from rfl]
            have HN2 := Lib.hid HN.out
            clear HN
            clear hlt
            go_wp2_with fail
            have HNO := Lib.hid (fun h8 => cls_no (h := h) (t := t) HN1.out HN2.out h8)
            go_loopw [9, 10, 11] (fun o nn i wq => ∃ (k : Nat) (A' : Option Addr) (c' : Nat), k ≤ t.length ∧ i = .int .i64 ((k : Int) + 1) ∧ nn = .int .i64 ((cntC (t.take k) : Nat) : Int) ∧ o = .slice A' k c' ∧ Hid (Below W0.heap.size W0 wq) ∧ Hid (Own1 wq W0.heap.size 9 (.slice A' k c') (strs ((t.take k).map upW)))) (fun _ _ i _ => t.length + 1 - (intOf i).toNat)
            case atStart => exact ⟨0, none, 0, Nat.zero_le _, rfl, by simp [cntC], rfl, HB, Lib.hid (by simpa [strs] using Own1.nil wr W0.heap.size 9)⟩
            case round =>
              obtain ⟨k, A', c', hk, rfl, rfl, rfl, HBq, HO⟩ := hrel
              clear HB
              by_cases hlt : k < t.length
              · obtain ⟨b', off', s, eA, hx, hcs⟩ := HW.out.at_ (k := k + 1) (by simp; omega)
                injection eA with eA
                injection eA with eA1 eA2
                subst eA1 eA2
                rw [List.getElem?_cons_succ] at hx
                have c1 := keep_cell HBq.out (keep_cell HB0.out hcs)
                have hl1 := World.block_lt_of_cell? wr _ c1
                have CI := Lib.hid (ris6_any s childW wr (HST.out s (List.mem_of_getElem? hx)) (by decide))
                have HTK := Lib.hid (take_snoc_map hx)
                have hcs2 := cnt_snoc hx
                have hml := Nat.le_trans (cnt_le (t.take k)) (List.length_take_le k t)
                obtain ⟨m, hmm⟩ : ∃ m, cntC (t.take k) = m := ⟨_, rfl⟩
                rw [hmm] at hcs2 hml ⊢
                have hll : (strs ((t.take k).map upW)).length = k := by rw [strs_len, List.length_map, List.length_take]; omega
                have HLL := Lib.hid hll
                clear hx hcs hll
                cases hr : sameS s childW
                · rw [hr] at CI
                  have HU : Hid (upW s = s) := Lib.hid (by unfold upW isChild; rw [hr]; rfl)
                  have HCN : Hid (cntC (t.take (k + 1)) = m) := Lib.hid (by rw [hcs2]; unfold isChild; rw [hr]; rfl)
                  clear hr hcs2 hmm
                  go_wp2_with fail
                  refine CI.out.mono ?_
                  rintro e x1 ⟨rfl, hb1⟩
                  have HBX := Lib.hid (blw HBq.out hb1)
                  have HOX := Lib.hid (HO.out.below hb1)
                  clear hb1
                  go_wp2_with (at_builtin; refine Dag.wpList_appG rfl _ _ 51 9 (.string ⟨#[]⟩) 16 Tryz.underlying51 info_str rfl rfl W0.heap.size (.slice A' k c') (strs ((t.take k).map upW)) rfl (by exact HOX.out.below (al _ _)) (some ⟨x1.heap.size, 0, none⟩) 1 1 [.string (sb s)] rfl rfl (Sl.one rfl) (by simp [Value.oneCell']) (by rw [HLL.out]; simp [maxLen]; omega) (by rw [HLL.out]; simp; omega) (by have := HBX.out.size; simp; omega) ?_; intro l A8 c8 w9 el ho9 hg9 _ hb9; have EL := Lib.hid el; have hll2 : l.length = k + 1 := (by rw [el, List.length_append, HLL.out]; rfl); rw [hll2] at ho9; rw [hll2]; have HO9 := Lib.hid ho9; have HB9 := Lib.hid ((HBX.out.trans (((al x1 _).mono HBX.out.size).trans hb9))); clear ho9 hg9 hb9 el hll2)
                  go_roundw
                  case rel =>
                    refine ⟨k + 1, A8, c8, by omega, by go_num, by rw [HCN.out], rfl, HB9, Lib.hid ?_⟩
                    rw [HTK.out, HU.out, strs_app]
                    rw [EL.out] at HO9
                    exact HO9.out
                  case measure => simp [intOf]; omega
                · rw [hr] at CI
                  have HU : Hid (upW s = childW) := Lib.hid (by unfold upW isChild; rw [hr]; rfl)
                  have HCN : Hid (cntC (t.take (k + 1)) = m + 1) := Lib.hid (by rw [hcs2]; unfold isChild; rw [hr]; rfl)
                  clear hr hcs2 hmm
                  go_wp2_with fail
                  refine CI.out.mono ?_
                  rintro e x1 ⟨rfl, hb1⟩
                  have HBX := Lib.hid (blw HBq.out hb1)
                  have HOX := Lib.hid (HO.out.below hb1)
                  clear hb1
                  go_wp2_with (at_builtin; refine Dag.wpList_appG rfl _ _ 51 9 (.string ⟨#[]⟩) 16 Tryz.underlying51 info_str rfl rfl W0.heap.size (.slice A' k c') (strs ((t.take k).map upW)) rfl (by exact HOX.out.below (al _ _)) (some ⟨x1.heap.size, 0, none⟩) 1 1 [.string (sb childW)] rfl rfl (Sl.one rfl) (by simp [Value.oneCell']) (by rw [HLL.out]; simp [maxLen]; omega) (by rw [HLL.out]; simp; omega) (by have := HBX.out.size; simp; omega) ?_; intro l A8 c8 w9 el ho9 hg9 _ hb9; have EL := Lib.hid el; have hll2 : l.length = k + 1 := (by rw [el, List.length_append, HLL.out]; rfl); rw [hll2] at ho9; rw [hll2]; have HO9 := Lib.hid ho9; have HB9 := Lib.hid ((HBX.out.trans (((al x1 _).mono HBX.out.size).trans hb9))); clear ho9 hg9 hb9 el hll2)
                  go_roundw
                  case rel =>
                    refine ⟨k + 1, A8, c8, by omega, by go_num, by rw [HCN.out]; go_num, rfl, HB9, Lib.hid ?_⟩
                    rw [HTK.out, HU.out, strs_app]
                    rw [EL.out] at HO9
                    exact HO9.out
                  case measure => simp [intOf]; omega
              · obtain rfl : k = t.length := by omega
                have hml := cnt_le t
                rw [List.take_length] at HO ⊢
                obtain ⟨m, hmm⟩ : ∃ m, cntC t = m := ⟨_, rfl⟩
                rw [hmm] at hml ⊢
                have cb := keep_cell HBq.out (keep_cell HB0.out HC0.out)
                have hlb := World.block_lt_of_cell? wr _ cb
                have CI := Lib.hid (ris6_any h (kwB 8) wr hsh (by decide))
                cases hp : sameS h (kwB 8)
                · rw [hp] at CI
                  have HN := Lib.hid (HNO.out hp)
                  clear hp
                  go_wp2_with fail
                  refine CI.out.mono ?_
                  rintro e x1 ⟨rfl, hb1⟩
                  go_wp2
                  go_ret3
                  exact ret_none HN.out (blw HB0.out (blw HBq.out hb1))
                · rw [hp] at CI
                  have hcp := cls_par (h := h) (t := t) hp
                  rw [fam_iff, hmm] at hcp
                  clear hp
                  by_cases hm1 : m = 1
                  case neg =>
                    rw [if_neg (fun e => hm1 e.1)] at hcp
                    have HN := Lib.hid hcp
                    have hmi : ((m : Int) != 1) = true := by rw [bne_iff_ne]; omega
                    clear hcp hm1 hmm
                    go_wp2_with fail
                    refine CI.out.mono ?_
                    rintro e x1 ⟨rfl, hb1⟩
                    go_wp2
                    go_ret3
                    exact ret_none HN.out (blw HB0.out (blw HBq.out hb1))
                  subst hm1
                  obtain ⟨q, hq⟩ : ∃ q, t.length = q + 1 := ⟨t.length - 1, by omega⟩
                  obtain ⟨t0, ht0⟩ : ∃ s, t[0]? = some s := ⟨_, List.getElem?_eq_getElem (by omega)⟩
                  obtain ⟨t1, ht1⟩ : ∃ s, t[q]? = some s := ⟨_, List.getElem?_eq_getElem (by omega)⟩
                  have hq1 : t.length - 1 = q := by omega
                  rw [hq1] at hcp
                  have hsl := (Own1.sl HO.out).2
                  obtain ⟨g, o2, eg, hc0⟩ := hsl.cells 0 _ (strs_get (l := t.map upW) (s := upW t0) (by rw [List.getElem?_map, ht0]; rfl))
                  subst eg
                  obtain ⟨g', o3, eg, hc1⟩ := hsl.cells q _ (strs_get (l := t.map upW) (s := upW t1) (by rw [List.getElem?_map, ht1]; rfl))
                  injection eg with eg
                  injection eg with eg1 eg2
                  subst eg1 eg2
                  rw [Nat.add_zero] at hc0
                  have HWW : Hid (Words wr (some ⟨g, o2, none⟩) c' (t.map upW)) := Lib.hid hsl
                  have hlg := World.block_lt_of_cell? wr _ hc0
                  have HQ := Lib.hid hq; have HBB := Lib.hid (blw HB0.out HBq.out)
                  rw [hq] at hne ⊢
                  have hqb : q ≤ 8796093022206 := by omega
                  clear hsl hq1 HO hmm HST HNO HN1 HN2 hml hcut hw2 hm HB0 HBq
                  have hqi : (q : Int) + 1 - 1 = (q : Int) := by omega
                  by_cases e0 : upW t0 = childW
                  · rw [if_neg (fun e => e.2.1 t0 ht0 e0)] at hcp
                    have HN := Lib.hid hcp
                    have g0 : ((sb (upW t0)).toList == [67, 72, 73, 76, 68]) = true := by rw [sb_toList, e0]; rfl
                    clear hcp e0 ht0 ht1
                    go_wp2_with fail
                    refine CI.out.mono ?_
                    rintro e x1 ⟨rfl, hb1⟩
                    have c0 := keep_cell hb1 hc0
                    have c1 := keep_cell hb1 hc1
                    clear hc0 hc1
                    go_wp2
                    go_ret3
                    exact ret_none HN.out (blw HBB.out hb1)
                  have g0 : ((sb (upW t0)).toList == [67, 72, 73, 76, 68]) = false := by rw [sb_toList, beq_eq_false_iff_ne]; exact e0
                  by_cases e1 : upW t1 = childW
                  · rw [if_neg (fun e => e.2.2 t1 ht1 e1)] at hcp
                    have HN := Lib.hid hcp
                    have g1 : ((sb (upW t1)).toList == [67, 72, 73, 76, 68]) = true := by rw [sb_toList, e1]; rfl
                    clear hcp e0 e1 ht0 ht1
                    go_wp2_with fail
                    refine CI.out.mono ?_
                    rintro e x1 ⟨rfl, hb1⟩
                    have c0 := keep_cell hb1 hc0
                    have c1 := keep_cell hb1 hc1
                    clear hc0 hc1
                    go_wp2
                    go_ret3
                    exact ret_none HN.out (blw HBB.out hb1)
                  have g1 : ((sb (upW t1)).toList == [67, 72, 73, 76, 68]) = false := by rw [sb_toList, beq_eq_false_iff_ne]; exact e1
                  rw [if_pos ⟨rfl, (fun s hs => by rw [ht0] at hs; injection hs with hs; rw [← hs]; exact e0), fun s hs => by rw [ht1] at hs; injection hs with hs; rw [← hs]; exact e1⟩] at hcp
                  have HN := Lib.hid hcp
                  clear hcp e0 e1 ht0 ht1
                  go_wp2_with fail
                  refine CI.out.mono ?_
                  rintro e x1 ⟨rfl, hb1⟩
                  have c0 := keep_cell hb1 hc0
                  have c1 := keep_cell hb1 hc1
                  clear hc0 hc1
                  go_wp2
                  go_ret3
                  exact ret_some HN.out (by rw [List.length_map, HQ.out]) (blw HBB.out hb1) (HWW.out.below hb1)
end Go.Proofs.YtkcijibkloamkaaGreatDoor

