/- New, and the graph in memory. -/
import Derived.Test.YtaokbjacfdipmaaDoorDagRev2
import Derived.Test.YtaokbjacfdipmaaDoorDagArrange
namespace Go.Proofs.YtaokbjacfdipmaaDoor
open Go.RowKit
set_option linter.unusedVariables false

theorem rowsV_rev (E : List (List Int)) : rowsV E.length (behL E) = (rev E).map ints := by unfold rowsV rev; rw [List.map_map]; rfl
theorem rev_rows_len {E : List (List Int)} (hn : E.length ≤ 30) : ∀ l ∈ rev E, l.length ≤ 1000 := by
  intro l hl
  obtain ⟨v, _, rfl⟩ := List.mem_map.1 hl
  rw [num_len]
  have := nodup_len (beh_nodup E v) fun u hu => (beh_mem.1 hu).1
  omega
def RetI (w : World) (n : Nat) (ls : List (List Int)) (e : Ending) (w' : World) : Prop := ∃ A c, e = .returned (.slice A n c) ∧ IRows w' A c ls ∧ Below w.heap.size w w'
theorem reverse_at (E : List (List Int)) (n : Nat) (he : E.length = n) (w : World) (A : Option Addr) (c : Nat) (h : IRows w A c E) (hn : n ≤ 30) (hE : Valid E) (hlen : ∀ l ∈ E, l.length ≤ 1000) :
    Calls Tryd.prog 31 #[.slice A n c] w (RetI w n (rev E)) := by
  subst he
  refine (reverse_any E w A c h hn hE hlen).mono ?_
  rintro e w' ⟨A', c', vs, rfl, ht, hb⟩
  rw [rowsV_rev] at ht
  exact ⟨A', c', rfl, ht.irows.2, hb⟩
theorem arrange_any (E : List (List Int)) (n : Nat) (he : E.length = n) (w : World) (A A' : Option Addr) (c c' : Nat) (hn : n ≤ 30) (hE : Valid E) (h1 : IRows w A c (fro E)) (h2 : IRows w A' c' (rev E)) (hT : Tab w) :
    Calls Tryd.prog 32 #[.slice A n c, .slice A' n c'] w (RetO w (num (order E))) := by
  subst he
  exact (callsIn_wide (n := 0)).1 (arrange_in 0 E w A A' c c' hn hE h1 h2 hT)

/-- a graph in memory -/
structure Gr (w : World) (E : List (List Int)) (p : Value) : Prop where
  ex : ∃ g A1 c1 A2 c2 A3 c3, p = .pointer (some ⟨g, 0, none⟩) ∧ w.heap[g]? = some (.cells #[.slice A1 E.length c1, .slice A2 E.length c2, .slice A3 E.length c3] 50 (0, 0)) ∧
    IRows w A1 c1 (fro E) ∧ IRows w A2 c2 (rev E) ∧ Ints w A3 c3 (num (order E))
  full : (order E).length = E.length
theorem Gr.below {w w' : World} {E : List (List Int)} {p : Value} (h : Gr w E p) (hb : Below w.heap.size w w') : Gr w' E p := by
  obtain ⟨g, A1, c1, A2, c2, A3, c3, e, hg, h1, h2, h3⟩ := h.ex
  exact ⟨⟨g, A1, c1, A2, c2, A3, c3, e, (hb.block g (blk_lt hg)).trans hg, h1.below hb, h2.below hb, h3.below hb⟩, h.full⟩

def newE (E : List (List Int)) : Int := if okAll E then (if (order E).length < E.length then 40 else 0) else 2
theorem newE_arg {E : List (List Int)} (h : okAll E = false) : newE E = 2 := by simp [newE, h]
theorem newE_cyc {E : List (List Int)} (h : okAll E = true) (h2 : (order E).length < E.length) : newE E = 40 := by simp [newE, h, h2]
theorem newE_ok {E : List (List Int)} (h : okAll E = true) (h2 : ¬ (order E).length < E.length) : newE E = 0 := by simp only [newE, h, if_true, if_neg h2]
def RetNew (w : World) (E : List (List Int)) (e : Ending) (w' : World) : Prop :=
  ∃ p, e = .returned (.tuple #[p, .int .i64 (newE E)]) ∧ Below w.heap.size w w' ∧ (newE E = 0 → Gr w' E p) ∧ (newE E ≠ 0 → p = .pointer none)

set_option maxHeartbeats 1600000 in
theorem new_any (E : List (List Int)) (n : Nat) (he : E.length = n) (w : World) (A : Option Addr) (c : Nat) (h : IRows w A c E) (hn : n ≤ 30) (hlen : ∀ l ∈ E, l.length ≤ 1000) (hT : Tab w) :
    Calls Tryd.prog 11 #[.slice A n c] w (RetNew w E) := by
  subst he
  have H := Lib.hid h; clear h
  have HT := Lib.hid hT; clear hT
  have HL := Lib.hid hlen; clear hlen
  cases hok : okAll E with
  | false =>
    have HE := Lib.hid (newE_arg hok)
    have HOK := Lib.hid hok; clear hok
    go_enter Tryd.func11, Tryd.ntmps11
    go_wp2_with fail
    refine (areV_any E _ _ _ H.out (by omega) false HOK.out).mono ?_
    rintro e w1 ⟨rfl, rfl⟩
    go_wp2_with fail
    go_ret2
    exact ⟨_, by rw [HE.out]; rfl, Below.refl _ _, (fun h => by rw [HE.out] at h; cases h), fun _ => rfl⟩
  | true =>
    have HV := Lib.hid (okAll_iff.1 hok)
    have HOK := Lib.hid hok; clear hok
    obtain ⟨m, hm⟩ : ∃ m, (order E).length = m := ⟨_, rfl⟩
    have hml : m ≤ E.length := by rw [← hm]; exact (order_ord E).len
    have HM := Lib.hid hm; clear hm
    by_cases hlt : m < E.length
    · have HE := Lib.hid (newE_cyc HOK.out (by rw [HM.out]; exact hlt))
      go_enter Tryd.func11, Tryd.ntmps11
      go_wp2_with fail
      refine (areV_any E _ _ _ H.out (by omega) true HOK.out).mono ?_
      rintro e w1 ⟨rfl, rfl⟩
      go_wp2_with fail
      refine (reverse_at E _ rfl _ _ _ H.out hn HV.out HL.out).mono ?_
      rintro e w2 ⟨A2, c2, rfl, h2, hb2⟩
      have H2 := Lib.hid h2; have HB2 := Lib.hid hb2; clear h2 hb2
      go_wp2_with fail
      refine (reverse_at (rev E) _ (rev_len E) _ _ _ H2.out hn (valid_rev E) (rev_rows_len hn)).mono ?_
      rintro e w3 ⟨A3, c3, rfl, h3, hb3⟩
      rw [rev_rev] at h3
      have H3 := Lib.hid h3; have HB3 := Lib.hid hb3; clear h3 hb3
      go_wp2_with fail
      refine (arrange_any E _ rfl _ _ _ _ _ hn HV.out H3.out (H2.out.below HB3.out) (HT.out.below (blw HB2.out HB3.out) HT.out.lt)).mono ?_
      rintro e w4 ⟨v4, rfl, h4, hb4⟩
      have HB4 := Lib.hid (blw (blw HB2.out HB3.out) hb4)
      obtain ⟨A4, c4, rfl, h4i⟩ := OwnI.ints h4
      clear h4 hb4 h4i
      have hl4 : (num (order E)).length = m := by rw [num_len, HM.out]
      rw [hl4]
      clear hl4
      go_wp2_with fail
      go_ret2
      exact ⟨_, by rw [HE.out]; rfl, HB4.out, (fun h => by rw [HE.out] at h; cases h), fun _ => rfl⟩
    · have HE := Lib.hid (newE_ok HOK.out (by rw [HM.out]; exact hlt))
      obtain rfl : m = E.length := by omega
      clear hlt
      go_enter Tryd.func11, Tryd.ntmps11
      go_wp2_with fail
      refine (areV_any E _ _ _ H.out (by omega) true HOK.out).mono ?_
      rintro e w1 ⟨rfl, rfl⟩
      go_wp2_with fail
      refine (reverse_at E _ rfl _ _ _ H.out hn HV.out HL.out).mono ?_
      rintro e w2 ⟨A2, c2, rfl, h2, hb2⟩
      have H2 := Lib.hid h2; have HB2 := Lib.hid hb2; clear h2 hb2
      go_wp2_with fail
      refine (reverse_at (rev E) _ (rev_len E) _ _ _ H2.out hn (valid_rev E) (rev_rows_len hn)).mono ?_
      rintro e w3 ⟨A3, c3, rfl, h3, hb3⟩
      rw [rev_rev] at h3
      have H3 := Lib.hid h3; have HB3 := Lib.hid hb3; clear h3 hb3
      go_wp2_with fail
      refine (arrange_any E _ rfl _ _ _ _ _ hn HV.out H3.out (H2.out.below HB3.out) (HT.out.below (blw HB2.out HB3.out) HT.out.lt)).mono ?_
      rintro e w4 ⟨v4, rfl, h4, hb4⟩
      have HBX := Lib.hid hb4
      have HB4 := Lib.hid (blw (blw HB2.out HB3.out) hb4)
      obtain ⟨A4, c4, rfl, h4i⟩ := OwnI.ints h4
      have H4 := Lib.hid h4i
      clear h4 hb4 h4i
      have hl4 : (num (order E)).length = E.length := by rw [num_len, HM.out]
      rw [hl4]
      clear hl4
      go_wp2_with fail
      go_ret2
      have hbl : Below w4.heap.size w4 (w4.alloc (.cells #[.slice A3 E.length c3, .slice A2 E.length c2, .slice A4 E.length c4] 50)) := (Below.refl _ _).alloc (Nat.le_refl _) _
      refine ⟨_, by rw [HE.out]; rfl, blw HB4.out hbl, fun _ => ⟨⟨_, A3, c3, A2, c2, A4, c4, rfl, heap_alloc_new w4 _, H3.out.below (blw HBX.out hbl), H2.out.below (blw (blw HB3.out HBX.out) hbl), H4.out.below hbl⟩, HM.out⟩, fun h => absurd HE.out h⟩

end Go.Proofs.YtaokbjacfdipmaaDoor
