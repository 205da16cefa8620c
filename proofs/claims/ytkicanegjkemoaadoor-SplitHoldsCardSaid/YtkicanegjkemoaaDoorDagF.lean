/- Layer Dag over: New again: the graph's blocks are new ones. -/
import Derived.Test.YtkicanegjkemoaaDoorDagE
import Derived.Test.YtkicanegjkemoaaDoorDagG
namespace Go.Proofs.YtkicanegjkemoaaDoor.Dag
open Go.RowKit
set_option linter.unusedVariables false
set_option maxRecDepth 100000

/-- all from base on is as it is -/
def Abv (base : Nat) (w w' : World) : Prop := ∀ k, base ≤ k → k < w.heap.size → w'.heap[k]? = w.heap[k]?
theorem Abv.refl (base : Nat) (w : World) : Abv base w w := fun _ _ _ => rfl
def IRowsF (base : Nat) (w : World) (A : Option Addr) (c : Nat) (ls : List (List Int)) : Prop := ∀ w', Abv base w w' → IRows w' A c ls
def IntsF (base : Nat) (w : World) (A : Option Addr) (c : Nat) (xs : List Int) : Prop := ∀ w', Abv base w w' → Ints w' A c xs
def GrF (base : Nat) (w : World) (E : List (List Int)) (p : Value) : Prop := ∀ w', Abv base w w' → Gr w' E p
theorem abv_below {base : Nat} {w w1 w2 : World} (hb : Below w.heap.size w w1) (h : Abv base w1 w2) : Abv base w w2 := fun k h1 h2 => (h k h1 (Nat.lt_of_lt_of_le h2 hb.size)).trans (hb.block k h2)
theorem IRowsF.below {base : Nat} {w w1 : World} {A : Option Addr} {c : Nat} {ls : List (List Int)} (h : IRowsF base w A c ls) (hb : Below w.heap.size w w1) : IRowsF base w1 A c ls := fun w2 h2 => h w2 (abv_below hb h2)
theorem IntsF.below {base : Nat} {w w1 : World} {A : Option Addr} {c : Nat} {ls : List Int} (h : IntsF base w A c ls) (hb : Below w.heap.size w w1) : IntsF base w1 A c ls := fun w2 h2 => h w2 (abv_below hb h2)
theorem GrF.below {base : Nat} {w w1 : World} {E : List (List Int)} {p : Value} (h : GrF base w E p) (hb : Below w.heap.size w w1) : GrF base w1 E p := fun w2 h2 => h w2 (abv_below hb h2)
theorem IRowsF.mono {base base' : Nat} {w : World} {A : Option Addr} {c : Nat} {ls : List (List Int)} (h : IRowsF base w A c ls) (hb : base' ≤ base) : IRowsF base' w A c ls := fun w2 h2 => h w2 fun k h3 h4 => h2 k (Nat.le_trans hb h3) h4
theorem IntsF.mono {base base' : Nat} {w : World} {A : Option Addr} {c : Nat} {ls : List Int} (h : IntsF base w A c ls) (hb : base' ≤ base) : IntsF base' w A c ls := fun w2 h2 => h w2 fun k h3 h4 => h2 k (Nat.le_trans hb h3) h4
theorem GrF.mono {base base' : Nat} {w : World} {E : List (List Int)} {p : Value} (h : GrF base w E p) (hb : base' ≤ base) : GrF base' w E p := fun w2 h2 => h w2 fun k h3 h4 => h2 k (Nat.le_trans hb h3) h4
theorem GrF.gr {base : Nat} {w : World} {E : List (List Int)} {p : Value} (h : GrF base w E p) : Gr w E p := h w (Abv.refl _ _)
theorem Tbl.frows {w : World} {base : Nat} {n c : Nat} {A : Option Addr} {vs : List Value} {t : TypeId} {ls : List (List Int)} (h : Tbl w base t 3 (.slice A n c) vs (ls.map ints)) : IRowsF base w A c ls := fun w' hA =>
  (h.keep (w' := w') (fun b e => hA b (h.out.lt e).1 (h.out.lt e).2) (fun k u b hu e => hA b (h.lt hu e).1 (h.lt hu e).2.1)).irows.2
theorem OwnI.fints {w : World} {base : Nat} {v : Value} {xs : List Int} (h : OwnI w base v xs) : ∃ A c, v = .slice A xs.length c ∧ IntsF base w A c xs := by
  obtain ⟨A, c, e, hi⟩ := OwnI.ints h
  subst e
  refine ⟨A, c, rfl, fun w' hA => ?_⟩
  have h2 : OwnI w' base (.slice A xs.length c) xs := Own1.keep h fun b e => hA b (Own1.lt h e).1 (Own1.lt h e).2
  obtain ⟨A', c', e', hi'⟩ := OwnI.ints h2
  injection e' with e1 e2 e3
  subst e1 e3
  exact hi'
def RetIF (w : World) (n : Nat) (ls : List (List Int)) (e : Ending) (w' : World) : Prop := ∃ A c, e = .returned (.slice A n c) ∧ IRowsF w.heap.size w' A c ls ∧ Below w.heap.size w w'
theorem reverse_fr (E : List (List Int)) (n : Nat) (he : E.length = n) (w : World) (A : Option Addr) (c : Nat) (h : IRows w A c E) (hn : n ≤ 4096) (hE : Valid E) (hlen : ∀ l ∈ E, l.length ≤ 1000000) :
    Calls Tryd.prog 71 #[.slice A n c] w (RetIF w n (rev E)) := by
  subst he
  refine (reverse_any E w A c h hn hE hlen).mono ?_
  rintro e w' ⟨A', c', vs, rfl, ht, hb⟩
  rw [rowsV_rev] at ht
  exact ⟨A', c', rfl, ht.frows, hb⟩
def RetNewF (w : World) (E : List (List Int)) (e : Ending) (w' : World) : Prop :=
  ∃ p, e = .returned (.tuple #[p, .int .i64 (newE E)]) ∧ Below w.heap.size w w' ∧ GrF w.heap.size w' E p

set_option maxHeartbeats 1600000 in
theorem new_fr (E : List (List Int)) (n : Nat) (he : E.length = n) (hne : newE E = 0) (w : World) (A : Option Addr) (c : Nat) (h : IRows w A c E) (hn : n ≤ 4096) (hlen : ∀ l ∈ E, l.length ≤ 1000000) (hT : Tab w) :
    Calls Tryd.prog 53 #[.slice A n c] w (RetNewF w E) := by
  subst he
  have H := Lib.hid h; clear h
  have HT := Lib.hid hT; clear hT
  have HL := Lib.hid hlen; clear hlen
  have HE := Lib.hid hne
  have hok : okAll E = true := by
    cases hok : okAll E with
    | true => rfl
    | false => rw [newE_arg hok] at hne; cases hne
  have hge : ¬ (order E).length < E.length := fun hlt => by rw [newE_cyc hok hlt] at hne; cases hne
  have HV := Lib.hid (okAll_iff.1 hok)
  have HOK := Lib.hid hok; clear hok hne
  have hml := (order_ord E).len
  have HM : Hid ((order E).length = E.length) := Lib.hid (by omega)
  clear hge hml
  go_enter Tryd.func53, Tryd.ntmps53
  go_wp2_with fail
  refine (areV_any E _ _ _ H.out (by omega) true HOK.out).mono ?_
  rintro e w1 ⟨rfl, rfl⟩
  go_wp2_with fail
  refine (reverse_fr E _ rfl _ _ _ H.out hn HV.out HL.out).mono ?_
  rintro e w2 ⟨A2, c2, rfl, h2, hb2⟩
  have H2 := Lib.hid h2; have HB2 := Lib.hid hb2; clear h2 hb2
  go_wp2_with fail
  refine (reverse_fr (rev E) _ (rev_len E) _ _ _ (H2.out _ (Abv.refl _ _)) hn (valid_rev E) (rev_rows_len hn)).mono ?_
  rintro e w3 ⟨A3, c3, rfl, h3, hb3⟩
  rw [rev_rev] at h3
  have H3 := Lib.hid h3; have HB3 := Lib.hid hb3; clear h3 hb3
  go_wp2_with fail
  refine (arrange_any E _ rfl _ _ _ _ _ hn HV.out (H3.out _ (Abv.refl _ _)) ((H2.out _ (Abv.refl _ _)).below HB3.out) (HT.out.below (blw HB2.out HB3.out) HT.out.lt)).mono ?_
  rintro e w4 ⟨v4, rfl, h4, hb4⟩
  have HBX := Lib.hid hb4
  have HB4 := Lib.hid (blw (blw HB2.out HB3.out) hb4)
  obtain ⟨A4, c4, rfl, h4i⟩ := OwnI.fints h4
  have H4 := Lib.hid h4i
  clear h4 hb4 h4i
  have hl4 : (num (order E)).length = E.length := by rw [num_len, HM.out]
  rw [hl4]
  clear hl4
  have hlt4 : E.length < E.length ↔ False := by simp
  go_wp2_with fail
  go_ret2
  have hbl : Below w4.heap.size w4 (w4.alloc (.cells #[.slice A3 E.length c3, .slice A2 E.length c2, .slice A4 E.length c4] 95)) := (Below.refl _ _).alloc (Nat.le_refl _) _
  refine ⟨_, by rw [HE.out]; rfl, blw HB4.out hbl, fun w' hA => ⟨⟨_, A3, c3, A2, c2, A4, c4, rfl, ?_, ?_, ?_, ?_⟩, HM.out⟩⟩
  · exact (hA _ HB4.out.size (by simp)).trans (heap_alloc_new w4 _)
  · exact ((H3.out.below (blw HBX.out hbl)).mono HB2.out.size) w' hA
  · exact (H2.out.below (blw (blw HB3.out HBX.out) hbl)) w' hA
  · exact ((H4.out.below hbl).mono (Nat.le_trans HB2.out.size HB3.out.size)) w' hA
end Go.Proofs.YtkicanegjkemoaaDoor.Dag

