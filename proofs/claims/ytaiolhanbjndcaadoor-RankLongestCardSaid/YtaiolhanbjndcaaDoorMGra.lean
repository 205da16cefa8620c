/- Layer Dag over: New again: the graph's blocks are new ones.
   Layer 7: the graph of a workflow.
   Layer 7: Down: the time that everything ahead of each task takes. -/
import Derived.Test.YtaiolhanbjndcaaDoorMTab
import Derived.Test.YtaiolhanbjndcaaDoorMSum
namespace Go.Proofs.YtaiolhanbjndcaaDoor.Dag
open Go.RowKit
set_option linter.unusedVariables false
set_option maxRecDepth 100000

/-- all from base on is as it is -/
def Abv (base : Nat) (w w' : World) : Prop := ∀ k, base ≤ k → k < w.heap.size → w'.heap[k]? = w.heap[k]?
theorem Abv.refl (base : Nat) (w : World) : Abv base w w := fun _ _ _ => rfl
def IRowsF (base : Nat) (w : World) (A : Option Addr) (c : Nat) (ls : List (List Int)) : Prop := ∀ w', Abv base w w' → IRows w' A c ls
def IntsF (base : Nat) (w : World) (A : Option Addr) (c : Nat) (xs : List Int) : Prop := ∀ w', Abv base w w' → Ints w' A c xs
def GrF (base : Nat) (w : World) (E : List (List Int)) (p : Value) : Prop := ∀ w', Abv base w w' → Gr w' E p
theorem abv_below {base : Nat} {w w1 w2 : World} (hb : Below w.heap.size w w1) (h : Abv base w1 w2) : Abv base w w2 := fun k h1 h2 => (h k h1 (Nat.lt_of_lt_of_le h2 hb.size)).trans (hb.block k h2)
theorem IRowsF.below {base : Nat} {w w1 : World} {A : Option Addr} {c : Nat} {ls : List (List Int)} (h : IRowsF base w A c ls) (hb : Below w.heap.size w w1) : IRowsF base w1 A c ls := fun w2 h2 => h w2 (abv_below hb h2)
theorem IntsF.below {base : Nat} {w w1 : World} {A : Option Addr} {c : Nat} {ls : List Int} (h : IntsF base w A c ls) (hb : Below w.heap.size w w1) : IntsF base w1 A c ls := fun w2 h2 => h w2 (abv_below hb h2)
theorem GrF.below {base : Nat} {w w1 : World} {E : List (List Int)} {p : Value} (h : GrF base w E p) (hb : Below w.heap.size w w1) : GrF base w1 E p := fun w2 h2 => h w2 (abv_below hb h2)
theorem IRowsF.mono {base base' : Nat} {w : World} {A : Option Addr} {c : Nat} {ls : List (List Int)} (h : IRowsF base w A c ls) (hb : base' ≤ base) : IRowsF base' w A c ls := fun w2 h2 => h w2 fun k h3 h4 => h2 k (Nat.le_trans hb h3) h4
theorem IntsF.mono {base base' : Nat} {w : World} {A : Option Addr} {c : Nat} {ls : List Int} (h : IntsF base w A c ls) (hb : base' ≤ base) : IntsF base' w A c ls := fun w2 h2 => h w2 fun k h3 h4 => h2 k (Nat.le_trans hb h3) h4
theorem GrF.mono {base base' : Nat} {w : World} {E : List (List Int)} {p : Value} (h : GrF base w E p) (hb : base' ≤ base) : GrF base' w E p := fun w2 h2 => h w2 fun k h3 h4 => h2 k (Nat.le_trans hb h3) h4
theorem GrF.gr {base : Nat} {w : World} {E : List (List Int)} {p : Value} (h : GrF base w E p) : Gr w E p := h w (Abv.refl _ _)
theorem Tbl.frows {w : World} {base : Nat} {n c : Nat} {A : Option Addr} {vs : List Value} {t : TypeId} {ls : List (List Int)} (h : Tbl w base t 3 (.slice A n c) vs (ls.map ints)) : IRowsF base w A c ls := fun w' hA =>
  (h.keep (w' := w') (fun b e => hA b (h.out.lt e).1 (h.out.lt e).2) (fun k u b hu e => hA b (h.lt hu e).1 (h.lt hu e).2.1)).irows.2
theorem OwnI.fints {w : World} {base : Nat} {v : Value} {xs : List Int} (h : OwnI w base v xs) : ∃ A c, v = .slice A xs.length c ∧ IntsF base w A c xs := by
  obtain ⟨A, c, e, hi⟩ := OwnI.ints h
  subst e
  refine ⟨A, c, rfl, fun w' hA => ?_⟩
  have h2 : OwnI w' base (.slice A xs.length c) xs := Own1.keep h fun b e => hA b (Own1.lt h e).1 (Own1.lt h e).2
  obtain ⟨A', c', e', hi'⟩ := OwnI.ints h2
  injection e' with e1 e2 e3
  subst e1 e3
  exact hi'
def RetIF (w : World) (n : Nat) (ls : List (List Int)) (e : Ending) (w' : World) : Prop := ∃ A c, e = .returned (.slice A n c) ∧ IRowsF w.heap.size w' A c ls ∧ Below w.heap.size w w'
theorem reverse_fr (E : List (List Int)) (n : Nat) (he : E.length = n) (w : World) (A : Option Addr) (c : Nat) (h : IRows w A c E) (hn : n ≤ 4096) (hE : Valid E) (hlen : ∀ l ∈ E, l.length ≤ 1000000) :
    Calls Tryd.prog 63 #[.slice A n c] w (RetIF w n (rev E)) := by
  subst he
  refine (reverse_any E w A c h hn hE hlen).mono ?_
  rintro e w' ⟨A', c', vs, rfl, ht, hb⟩
  rw [rowsV_rev] at ht
  exact ⟨A', c', rfl, ht.frows, hb⟩
def RetNewF (w : World) (E : List (List Int)) (e : Ending) (w' : World) : Prop :=
  ∃ p, e = .returned (.tuple #[p, .int .i64 (newE E)]) ∧ Below w.heap.size w w' ∧ GrF w.heap.size w' E p

set_option maxHeartbeats 1600000 in
theorem new_fr (E : List (List Int)) (n : Nat) (he : E.length = n) (hne : newE E = 0) (w : World) (A : Option Addr) (c : Nat) (h : IRows w A c E) (hn : n ≤ 4096) (hlen : ∀ l ∈ E, l.length ≤ 1000000) (hT : Tab w) :
    Calls Tryd.prog 46 #[.slice A n c] w (RetNewF w E) := by
  subst he
  have H := Lib.hid h; clear h
  have HT := Lib.hid hT; clear hT
  have HL := Lib.hid hlen; clear hlen
  have HE := Lib.hid hne
  have hok : okAll E = true := by
    cases hok : okAll E with
    | true => rfl
    | false => rw [newE_arg hok] at hne; cases hne
  have hge : ¬ (order E).length < E.length := fun hlt => by rw [newE_cyc hok hlt] at hne; cases hne
  have HV := Lib.hid (okAll_iff.1 hok)
  have HOK := Lib.hid hok; clear hok hne
  have hml := (order_ord E).len
  have HM : Hid ((order E).length = E.length) := Lib.hid (by omega)
  clear hge hml
  go_enter Tryd.func46, Tryd.ntmps46
  go_wp2_with fail
  refine (areV_any E _ _ _ H.out (by omega) true HOK.out).mono ?_
  rintro e w1 ⟨rfl, rfl⟩
  go_wp2_with fail
  refine (reverse_fr E _ rfl _ _ _ H.out hn HV.out HL.out).mono ?_
  rintro e w2 ⟨A2, c2, rfl, h2, hb2⟩
  have H2 := Lib.hid h2; have HB2 := Lib.hid hb2; clear h2 hb2
  go_wp2_with fail
  refine (reverse_fr (rev E) _ (rev_len E) _ _ _ (H2.out _ (Abv.refl _ _)) hn (valid_rev E) (rev_rows_len hn)).mono ?_
  rintro e w3 ⟨A3, c3, rfl, h3, hb3⟩
  rw [rev_rev] at h3
  have H3 := Lib.hid h3; have HB3 := Lib.hid hb3; clear h3 hb3
  go_wp2_with fail
  refine (arrange_any E _ rfl _ _ _ _ _ hn HV.out (H3.out _ (Abv.refl _ _)) ((H2.out _ (Abv.refl _ _)).below HB3.out) (HT.out.below (blw HB2.out HB3.out) HT.out.lt)).mono ?_
  rintro e w4 ⟨v4, rfl, h4, hb4⟩
  have HBX := Lib.hid hb4
  have HB4 := Lib.hid (blw (blw HB2.out HB3.out) hb4)
  obtain ⟨A4, c4, rfl, h4i⟩ := OwnI.fints h4
  have H4 := Lib.hid h4i
  clear h4 hb4 h4i
  have hl4 : (num (order E)).length = E.length := by rw [num_len, HM.out]
  rw [hl4]
  clear hl4
  have hlt4 : E.length < E.length ↔ False := by simp
  go_wp2_with fail
  go_ret2
  have hbl : Below w4.heap.size w4 (w4.alloc (.cells #[.slice A3 E.length c3, .slice A2 E.length c2, .slice A4 E.length c4] 65)) := (Below.refl _ _).alloc (Nat.le_refl _) _
  refine ⟨_, by rw [HE.out]; rfl, blw HB4.out hbl, fun w' hA => ⟨⟨_, A3, c3, A2, c2, A4, c4, rfl, ?_, ?_, ?_, ?_⟩, HM.out⟩⟩
  · exact (hA _ HB4.out.size (by simp)).trans (heap_alloc_new w4 _)
  · exact ((H3.out.below (blw HBX.out hbl)).mono HB2.out.size) w' hA
  · exact (H2.out.below (blw (blw HB3.out HBX.out) hbl)) w' hA
  · exact ((H4.out.below hbl).mono (Nat.le_trans HB2.out.size HB3.out.size)) w' hA
end Go.Proofs.YtaiolhanbjndcaaDoor.Dag
namespace Go.Proofs.YtaiolhanbjndcaaDoor
open Go.RowKit
open Dag (Ints Own1 Sl num num_len Gr newE)
set_option linter.unusedVariables false
set_option maxRecDepth 100000

theorem chk_new {f : FlowD} (h : checkE f = 0) : newE (afterL f.tasks) = 0 := by
  unfold checkE at h
  split at h
  · cases h
  · split at h
    · cases h
    · split at h
      · cases h
      · split at h
        · cases h
        · split at h
          · cases h
          · exact h
def RetG (f : FlowD) (w : World) (e : Ending) (w' : World) : Prop := ∃ p, e = .returned (.tuple #[p, .int .i64 (checkE f)]) ∧ Below w.heap.size w w' ∧ (checkE f = 0 → Dag.GrF w.heap.size w' (afterL f.tasks) p) ∧ (checkE f ≠ 0 → p = .pointer none)
set_option maxHeartbeats 1600000 in
theorem graph_any (f : FlowD) (A : Option Addr) (c : Nat) (w : World) (h : Tasks w A c f.tasks) (hT : Tb3 w) (hl : f.name.length ≤ 9000000000000000000) (hn : ∀ t ∈ f.tasks, t.name.length ≤ 9000000000000000000) (hlen : f.tasks.length ≤ 4096) (hal : ∀ t ∈ f.tasks, t.after.length ≤ 1000000) :
    Calls Tryd.prog 31 #[.agg #[.string (sb f.name), .int .i64 f.deadline, .int .i64 f.priority, .slice A f.tasks.length c]] w (RetG f w) := by
  have HC := Lib.hid fun W (hW : Below w.heap.size w W) => check_all f A c W (h.below hW) (hT.below hW) hl hn
  have HAF := Lib.hid fun W (hW : Below w.heap.size w W) => after_any f A c W (h.below hW) (by omega) (fun t ht => Nat.le_trans (hal t ht) (by decide))
  have HNW := Lib.hid fun W A' c' (hz : newE (afterL f.tasks) = 0) (hW : Below w.heap.size w W) (hr : Dag.IRows W A' c' (afterL f.tasks)) => Dag.new_fr (afterL f.tasks) f.tasks.length (afterL_len f.tasks) hz W A' c' hr hlen (fun l hm => by obtain ⟨t, ht, rfl⟩ := List.mem_map.1 hm; exact hal t ht) (hT.below hW).dag
  clear h hT hl hn hal
  unfold RetG
  obtain ⟨x, hx⟩ : ∃ x, checkE f = x := ⟨_, rfl⟩
  have HX := Lib.hid hx
  rw [hx] at HC ⊢
  clear hx
  by_cases h0 : x = 0
  case neg =>
    have hxn : (x != 0) = true := by simp [h0]
    have H0 := Lib.hid h0
    clear h0
    go_enter Tryd.func31, Tryd.ntmps31
    go_wp2_with fail
    refine (HC.out _ (al _ _)).mono ?_
    rintro e w1 ⟨rfl, hb1⟩
    have HB1 := Lib.hid (blw (al w (flowO f A c)) hb1)
    clear hb1
    go_wp2
    go_ret2
    exact ⟨_, rfl, HB1.out, fun h => absurd h H0.out, fun _ => rfl⟩
  subst h0
  have HNE := Lib.hid (chk_new HX.out)
  go_enter Tryd.func31, Tryd.ntmps31
  go_wp2_with fail
  refine (HC.out _ (al _ _)).mono ?_
  rintro e w1 ⟨rfl, hb1⟩
  have HB1 := Lib.hid (blw (al w (flowO f A c)) hb1)
  have HO1 : Hid (w1.heap[w.heap.size]? = some (flowO f A c)) := Lib.hid ((hb1.block _ (by simp)).trans (heap_alloc_new w _))
  clear hb1
  obtain ⟨p0, p1, p2, p3, hp⟩ := flowO_cells HO1.out
  go_wp2_with fail
  refine (HAF.out _ HB1.out).mono ?_
  rintro e w2 ⟨A2, c2, rfl, hr2, hb2⟩
  have HB2 := Lib.hid (blw HB1.out hb2)
  have HR2 := Lib.hid hr2
  clear hb2 hr2 p0 p1 p2 p3 hp
  go_wp2_with fail
  refine (HNW.out _ _ _ HNE.out HB2.out HR2.out).mono ?_
  rintro e w3 ⟨p, rfl, hb3, hg3⟩
  rw [HNE.out]
  have HB3 := Lib.hid (blw HB2.out hb3)
  have HG3 := Lib.hid (hg3.mono HB2.out.size)
  clear hb3 hg3
  go_wp2
  go_ret2
  exact ⟨p, rfl, HB3.out, fun _ => HG3.out, fun h => absurd rfl h⟩
end Go.Proofs.YtaiolhanbjndcaaDoor
namespace Go.Proofs.YtaiolhanbjndcaaDoor
open Go.RowKit
open Dag (Ints Own1 Sl num num_len num_get Gr newE order befL bef_mem order_ord)
set_option linter.unusedVariables false
set_option maxRecDepth 100000

def RetU (f : FlowD) (U : Nat → Int) (w : World) (e : Ending) (w' : World) : Prop := ∃ A c, e = .returned (.tuple #[.slice A (rankV f U).length c, .int .i64 (rankE f U)]) ∧ Ints w' A c (rankV f U) ∧ Below w.heap.size w w'
theorem retU_err {f : FlowD} {U : Nat → Int} {w w' : World} {x : Int} (h : rankE f U = x) (hx : x ≠ 0) (hb : Below w.heap.size w w') : RetU f U w (.returned (.tuple #[.slice none 0 0, .int .i64 x])) w' := by
  have hv : rankV f U = [] := by unfold rankV; rw [h, if_neg hx]
  refine ⟨none, 0, by rw [hv, h]; rfl, by rw [hv]; exact Sl.empty _, hb⟩
theorem retU_ok {f : FlowD} {U : Nat → Int} {w w' : World} {A : Option Addr} {c n : Nat} {xs : List Int} (hc : checkE f = 0) (ho : okU f.tasks.length U = true) (hn : f.tasks.length = n) (hxs : xs = numsU n U) (hI : Ints w' A c xs) (hb : Below w.heap.size w w') : RetU f U w (.returned (.tuple #[.slice A n c, .int .i64 0])) w' := by
  subst hn
  have he : rankE f U = 0 := by unfold rankE; rw [if_neg (fun e => e hc), if_pos ho]
  have hv : rankV f U = xs := by unfold rankV; rw [he, if_pos rfl, hxs]
  refine ⟨A, c, by rw [hv, he, hxs]; simp [numsU], by rw [hv]; exact hI, hb⟩
/-- what was found so far -/
def DnO (ts : List TaskD) (k u : Nat) (x : Int) : Prop := (u ∈ (order (afterL ts)).take k → x = dnD ts u ∧ x ≤ maxT) ∧ (u ∉ (order (afterL ts)).take k → x = 0)
structure DnK (ts : List TaskD) (k : Nat) (xs : List Int) : Prop where
  len : xs.length = ts.length
  at_ : ∀ u x, xs[u]? = some x → DnO ts k u x
structure DnJ (ts : List TaskD) (k v j : Nat) (xs : List Int) : Prop where
  len : xs.length = ts.length
  other : ∀ u x, u ≠ v → xs[u]? = some x → DnO ts k u x
  here : ∀ x, xs[v]? = some x → x = maxL (((befL (afterL ts) v).take j).map fun w => dnD ts w + wtAt ts w) ∧ x ≤ maxT
theorem DnK.start (ts : List TaskD) : DnK ts 0 (List.replicate ts.length 0) := ⟨by simp, fun u x h => by
  have hu := (List.getElem?_eq_some_iff.1 h).1
  rw [List.length_replicate] at hu
  rw [List.getElem?_replicate, if_pos hu] at h; injection h with h
  exact ⟨fun hm => by simp at hm, fun _ => h.symm⟩⟩
theorem ord_new {ts : List TaskD} {k v : Nat} (hv : (order (afterL ts))[k]? = some v) : v ∉ (order (afterL ts)).take k := fun hm => by
  obtain ⟨i, hi⟩ := List.getElem?_of_mem hm
  rw [List.getElem?_take] at hi
  split at hi
  · have := (List.getElem?_inj (List.getElem?_eq_some_iff.1 hi).1 (order_ord (afterL ts)).nodup).1 (hi.trans hv.symm)
    omega
  · cases hi
theorem DnK.go {ts : List TaskD} {k v : Nat} {xs : List Int} (h : DnK ts k xs) (hv : (order (afterL ts))[k]? = some v) : DnJ ts k v 0 xs :=
  ⟨h.len, fun u x _ hx => h.at_ u x hx, fun x hx => by
    have := (h.at_ v x hx).2 (ord_new hv)
    subst this
    exact ⟨by simp [maxL], by decide⟩⟩
theorem DnJ.step {ts : List TaskD} {k v j u : Nat} {xs : List Int} {a : Int} (h : DnJ ts k v j xs) (hu : (befL (afterL ts) v)[j]? = some u) (hv : v < ts.length) (ha : xs[v]? = some a) (hle : dnD ts u + wtAt ts u ≤ maxT) : DnJ ts k v (j + 1) (xs.set v (max a (dnD ts u + wtAt ts u))) := by
  obtain ⟨h1, h2⟩ := h.here a ha
  refine ⟨by rw [List.length_set, h.len], fun w x hw hx => ?_, fun x hx => ?_⟩
  · rw [List.getElem?_set_ne (fun e => hw e.symm)] at hx
    exact h.other w x hw hx
  · rw [List.getElem?_set_self (by rw [h.len]; exact hv)] at hx
    injection hx with hx
    subst hx
    refine ⟨?_, by omega⟩
    rw [List.take_add_one, hu, Option.toList_some, List.map_append, List.map_cons, List.map_nil, maxL_snoc, ← h1]
theorem take_one_more {l : List Nat} {k v u : Nat} (h : l[k]? = some v) : u ∈ l.take (k + 1) ↔ u ∈ l.take k ∨ u = v := by
  rw [List.take_add_one, h, Option.toList_some, List.mem_append, List.mem_singleton]
section
variable {ts : List TaskD} (hf : (order (afterL ts)).length = ts.length)
include hf
theorem DnJ.done {k v : Nat} {xs : List Int} (hv : (order (afterL ts))[k]? = some v) (h : DnJ ts k v (befL (afterL ts) v).length xs) : DnK ts (k + 1) xs := by
  have hvl := (ord_all hf v).1 (List.mem_of_getElem? hv)
  refine ⟨h.len, fun u x hx => ?_⟩
  by_cases e : u = v
  · subst e
    obtain ⟨h1, h2⟩ := h.here x hx
    rw [List.take_length] at h1
    refine ⟨fun _ => ⟨?_, h2⟩, fun hn => absurd ((take_one_more hv).2 (Or.inr rfl)) hn⟩
    rw [h1, dnD_step hf hvl]; rfl
  · obtain ⟨h1, h2⟩ := h.other u x e hx
    refine ⟨fun hm => h1 (((take_one_more hv).1 hm).resolve_right e), fun hn => h2 fun hm => hn ((take_one_more hv).2 (Or.inl hm))⟩
theorem DnJ.val {k v j u : Nat} {xs : List Int} (hv : (order (afterL ts))[k]? = some v) (h : DnJ ts k v j xs) (hu : u ∈ befL (afterL ts) v) : u ≠ v ∧ u < ts.length ∧ v < ts.length ∧ xs[u]? = some (dnD ts u) ∧ dnD ts u ≤ maxT := by
  obtain ⟨h1, h2, h3⟩ := dn_arc hf hu
  have hne : u ≠ v := fun e => by subst e; omega
  have hm := (order_ord (afterL ts)).behind k v hv u hu
  obtain ⟨x, hx⟩ : ∃ x, xs[u]? = some x := ⟨_, List.getElem?_eq_getElem (by rw [h.len]; exact h2)⟩
  obtain ⟨h4, h5⟩ := (h.other u x hne hx).1 hm
  subst h4
  exact ⟨hne, h2, h1, hx, h5⟩
theorem dn_over {v u : Nat} (hu : u ∈ befL (afterL ts) v) (h : maxT < dnD ts u + wtAt ts u) : okU ts.length (dnD ts) = false := by
  obtain ⟨h1, h2, h3⟩ := dn_arc hf hu
  cases e : okU ts.length (dnD ts) with
  | false => rfl
  | true =>
    have h4 := okU_iff.1 e v h1
    rw [dnD_step hf h1] at h4
    have h5 : dnD ts u + wtAt ts u ≤ dnS ts (dnD ts) v := maxL_ge (List.mem_map.2 ⟨u, hu, rfl⟩)
    omega
theorem DnK.fin {xs : List Int} (h : DnK ts ts.length xs) : okU ts.length (dnD ts) = true ∧ xs = numsU ts.length (dnD ts) := by
  have hall : ∀ u x, xs[u]? = some x → x = dnD ts u ∧ x ≤ maxT := fun u x hx => by
    have hu := (List.getElem?_eq_some_iff.1 hx).1
    rw [h.len] at hu
    exact (h.at_ u x hx).1 (by rw [← hf, List.take_length]; exact (ord_all hf u).2 hu)
  refine ⟨okU_iff.2 fun v hv => ?_, ?_⟩
  · obtain ⟨x, hx⟩ : ∃ x, xs[v]? = some x := ⟨_, List.getElem?_eq_getElem (by rw [h.len]; exact hv)⟩
    obtain ⟨h1, h2⟩ := hall v x hx
    omega
  · apply List.ext_getElem?
    intro i
    unfold numsU
    by_cases hi : i < ts.length
    · obtain ⟨x, hx⟩ : ∃ x, xs[i]? = some x := ⟨_, List.getElem?_eq_getElem (by rw [h.len]; exact hi)⟩
      rw [hx, List.getElem?_map, List.getElem?_range hi, (hall i x hx).1]; rfl
    · rw [List.getElem?_eq_none (by rw [h.len]; omega), List.getElem?_eq_none (by simp; omega)]
end

set_option maxHeartbeats 3200000 in
theorem down_any (f : FlowD) (A : Option Addr) (c : Nat) (w : World) (h : Tasks w A c f.tasks) (hT : Tb3 w) (hl : f.name.length ≤ 9000000000000000000) (hn : ∀ t ∈ f.tasks, t.name.length ≤ 9000000000000000000) (hlen : f.tasks.length ≤ 30) (hal : ∀ t ∈ f.tasks, t.after.length ≤ 1000000) :
    Calls Tryd.prog 14 #[.agg #[.string (sb f.name), .int .i64 f.deadline, .int .i64 f.priority, .slice A f.tasks.length c]] w (RetU f (dnD f.tasks) w) := by
  have HG := Lib.hid fun W (hW : Below w.heap.size w W) => graph_any f A c W (h.below hW) (hT.below hW) hl hn (by omega) hal
  have H := Lib.hid h
  clear h hT hl hn hal
  unfold RetG at HG
  obtain ⟨x, hx⟩ : ∃ x, checkE f = x := ⟨_, rfl⟩
  have HX := Lib.hid hx
  rw [hx] at HG
  clear hx
  by_cases h0 : x = 0
  case neg =>
    have hxn : (x != 0) = true := by simp [h0]
    have HE : Hid (rankE f (dnD f.tasks) = x) := Lib.hid (by unfold rankE; rw [HX.out, if_pos h0])
    have H0 := Lib.hid h0
    clear h0
    go_enter Tryd.func14, Tryd.ntmps14
    go_wp2_with fail
    refine (HG.out _ (al _ _)).mono ?_
    rintro e w1 ⟨p, rfl, hb1, _, _⟩
    have HB1 := Lib.hid (blw (al w (flowO f A c)) hb1)
    clear hb1
    go_wp2
    go_ret2
    exact retU_err HE.out H0.out HB1.out
  subst h0
  go_enter Tryd.func14, Tryd.ntmps14
  go_wp2_with fail
  refine (HG.out _ (al _ _)).mono ?_
  rintro e w1 ⟨p, rfl, hb1, hg1, _⟩
  have HB1 := Lib.hid (blw (al w (flowO f A c)) hb1)
  have HO1 : Hid (w1.heap[w.heap.size]? = some (flowO f A c)) := Lib.hid ((hb1.block _ (by simp)).trans (heap_alloc_new w _))
  have HGR := Lib.hid (hg1 (by first | rfl | trivial)).gr
  have HEL := Lib.hid (afterL_len f.tasks)
  clear hb1 hg1
  go_wp2_with fail
  have hln := Dag.len_any HGR.out
  rw [HEL.out] at hln
  refine hln.mono ?_
  clear hln
  rintro e w2 ⟨rfl, rfl⟩
  have hmk := fun W : World => Dag.run_mk W 27 3 _ 8 Tryd.underlying27 Dag.info_int rfl (by decide) f.tasks.length (by omega) _ _ rfl rfl
  go_wp2_with fail
  clear hmk
  have hb0 := al w1 (.cells (Array.replicate f.tasks.length (.int .i64 0)) 3)
  have ho0 : Own1 (w1.alloc (.cells (Array.replicate f.tasks.length (.int .i64 0)) 3)) w1.heap.size 3 (.slice (some ⟨w1.heap.size, 0, none⟩) f.tasks.length f.tasks.length) (Dag.ints (List.replicate f.tasks.length 0)) := by
    rw [show Dag.ints (List.replicate f.tasks.length 0) = List.replicate f.tasks.length (.int .i64 0) from by simp [Dag.ints]]
    exact Own1.make w1 w1.heap.size 3 (Nat.le_refl _) f.tasks.length (by omega) (.int .i64 0) rfl
  have hs0 : (w1.alloc (.cells (Array.replicate f.tasks.length (.int .i64 0)) 3)).heap.size = w1.heap.size + 1 := by simp
  generalize w1.alloc (.cells (Array.replicate f.tasks.length (.int .i64 0)) 3) = W0 at hb0 ho0 hs0 ⊢
  have HOR := Lib.hid (Dag.order_any W0 (afterL f.tasks) p (HGR.out.below hb0) (by rw [HEL.out]; exact hlen))
  have hol : (num (order (afterL f.tasks))).length = f.tasks.length := by rw [num_len, HGR.out.full, HEL.out]
  refine HOR.out.mono ?_
  rintro e w2 ⟨Ao, co, rfl, hio, hb2, hfr⟩
  rw [hol]
  have HIO := Lib.hid hio
  have HX2 := Lib.hid (blw hb0 hb2)
  have HR2 := Lib.hid (ho0.below hb2)
  have HFO : Hid (∀ a, Ao = some a → w1.heap.size < a.block) := Lib.hid fun a ha => by have := hfr a ha; omega
  have HOL := Lib.hid hol
  clear hb0 ho0 hio hb2 hfr HOR hol hs0
  obtain ⟨dl, hdl⟩ : ∃ dl, w1.heap.size = dl := ⟨_, rfl⟩
  rw [hdl] at HR2 HFO ⊢
  have HDL := Lib.hid hdl
  clear hdl
  have HFL := Lib.hid HGR.out.full
  have hFUL : (order (afterL f.tasks)).length = f.tasks.length := by rw [HGR.out.full, HEL.out]
  have HFU := Lib.hid hFUL
  have hdw : w.heap.size < dl := by rw [← HDL.out]; exact Dag.blk_lt HO1.out
  have HPO := Lib.hid fun (t : TaskD) (hm : t ∈ f.tasks) => nums_wgt HX.out hm false
  clear hFUL
  go_wp2_with fail
  go_loopw [27] (fun i wr => ∃ (k : Nat) (xs : List Int), k ≤ f.tasks.length ∧ i = .int .i64 k ∧ Hid (DnK f.tasks k xs) ∧ Hid (Own1 wr dl 3 (.slice (some ⟨dl, 0, none⟩) f.tasks.length f.tasks.length) (Dag.ints xs)) ∧ Hid (Below w1.heap.size w1 wr) ∧ Hid (Ints wr Ao co (num (order (afterL f.tasks))))) (fun i _ => f.tasks.length - (intOf i).toNat)
  case atStart => exact ⟨0, _, Nat.zero_le _, rfl, Lib.hid (DnK.start _), HR2, HX2, HIO⟩
  case round =>
    clear HR2 HX2 HIO
    obtain ⟨k, xs, hk, rfl, HD, HR, HX1, HI⟩ := hrel
    obtain ⟨wA, rfl⟩ : ∃ x, x = wr := ⟨wr, rfl⟩
    by_cases hlt : k < f.tasks.length
    · obtain ⟨v, hv⟩ : ∃ v, (order (afterL f.tasks))[k]? = some v := ⟨_, List.getElem?_eq_getElem (by rw [HFU.out]; exact hlt)⟩
      have hvl := (ord_all HFU.out v).1 (List.mem_of_getElem? hv)
      obtain ⟨b3, o3, eA3, c3⟩ := HI.out.cells k (.int .i64 (v : Int)) (by unfold Dag.ints; rw [List.getElem?_map, num_get, hv]; rfl)
      subst eA3
      have HBF := Lib.hid (Dag.before_any wA (afterL f.tasks) p (HGR.out.below HX1.out) (by rw [HEL.out]; exact hlen) (v : Int))
      have hgl : Dag.getL (Dag.fro (afterL f.tasks)) (v : Int) = num (befL (afterL f.tasks) v) := by
        unfold Dag.getL
        rw [Dag.fro_len, if_pos (by rw [HEL.out]; omega), Int.toNat_natCast]
        exact Dag.fro_row v (by rw [HEL.out]; exact hvl)
      rw [hgl] at HBF
      have HV := Lib.hid hv
      obtain ⟨R, hR⟩ : ∃ R, befL (afterL f.tasks) v = R := ⟨_, rfl⟩
      rw [hR] at HBF
      have HRE := Lib.hid hR
      have hRl : R.length ≤ 30 := by rw [← hR]; exact Nat.le_trans (Dag.nodup_len (Dag.bef_nodup (afterL f.tasks) v) fun u hu => (bef_mem.1 hu).1) (by rw [HEL.out]; exact hlen)
      have HJ0 := Lib.hid (HD.out.go hv)
      have hlb3 := World.block_lt_of_cell? wA _ c3
      clear hv hgl hR
      go_wp2_with fail
      refine HBF.out.mono ?_
      rintro e w4 ⟨Ab, cb, rfl, hib, hb4, hfb⟩
      rw [num_len]
      have HIB := Lib.hid hib; have HFB := Lib.hid hfb
      have HR4 := Lib.hid (HR.out.below hb4)
      have HX4 := Lib.hid (blw HX1.out hb4)
      have HI4 := Lib.hid (HI.out.below hb4)
      have HDA : Hid (dl < wA.heap.size) := Lib.hid (HR.out.lt (b := dl) rfl).2
      clear hib hb4 hfb HBF c3 hlb3
      go_wp2_with fail
      go_loopw [35] (fun i wr => ∃ (j : Nat) (xs : List Int), j ≤ R.length ∧ i = .int .i64 j ∧ Hid (DnJ f.tasks k v j xs) ∧ Hid (Own1 wr dl 3 (.slice (some ⟨dl, 0, none⟩) f.tasks.length f.tasks.length) (Dag.ints xs)) ∧ Hid (Below w1.heap.size w1 wr) ∧ Hid (Ints wr (some ⟨b3, o3, none⟩) co (num (order (afterL f.tasks)))) ∧ Hid (Ints wr Ab cb (num R))) (fun i _ => R.length - (intOf i).toNat)
      case atStart => exact ⟨0, xs, Nat.zero_le _, rfl, HJ0, HR4, HX4, HI4, HIB⟩
      case round =>
        clear HR4 HX4 HI4 HIB HJ0 HR HX1 HI HD
        obtain ⟨j, xs, hj, rfl, HJ, HR, HX1, HI, HIB⟩ := hrel
        obtain ⟨wB, rfl⟩ : ∃ x, x = wr := ⟨wr, rfl⟩
        by_cases hlj : j < R.length
        · obtain ⟨u, hu⟩ : ∃ u, R[j]? = some u := ⟨_, List.getElem?_eq_getElem hlj⟩
          have hum : u ∈ befL (afterL f.tasks) v := by rw [HRE.out]; exact List.mem_of_getElem? hu
          obtain ⟨hne, hul, hvl2, hxu, hdu⟩ := DnJ.val HFU.out HV.out HJ.out hum
          obtain ⟨b4, o4, eA4, c4⟩ := HIB.out.cells j (.int .i64 (u : Int)) (by unfold Dag.ints; rw [List.getElem?_map, num_get, hu]; rfl)
          subst eA4
          obtain ⟨tk, htk⟩ : ∃ tk, f.tasks[u]? = some tk := ⟨_, List.getElem?_eq_getElem hul⟩
          have HBW := Lib.hid (HB1.out.trans (HX1.out.mono HB1.out.size))
          obtain ⟨b, off, A2, c2, eA, h0, h1, h2, h3, h4, h5, hI⟩ := (H.out.below HBW.out).cells u tk htk
          subst eA
          obtain ⟨a, hxa⟩ : ∃ a, xs[v]? = some a := ⟨_, List.getElem?_eq_getElem (by rw [HJ.out.len]; exact hvl)⟩
          have hwu := wtAt_some htk
          obtain ⟨du, hdu2⟩ : ∃ du, dnD f.tasks u = du := ⟨_, rfl⟩
          obtain ⟨av, hav⟩ : ∃ av, wgt tk = av := ⟨_, rfl⟩
          obtain ⟨hw0, hw1, _, _⟩ := HPO.out tk (List.mem_of_getElem? htk)
          have hWt := fun (W : World) => weight_any tk A2 c2 W
          rw [hav] at hw0 hw1 hWt hwu
          rw [hdu2] at hxu hdu
          have HWT := Lib.hid hWt
          have hd0 : 0 ≤ du := by rw [← hdu2, dnD_step HFU.out hul]; exact maxL_nonneg _
          unfold maxT at hw1 hdu
          obtain ⟨_, e1, _, _, cu, _⟩ := Own1.at_ HR.out (Dag.ints_get hxu)
          injection e1 with e1; injection e1 with e1; subst e1
          obtain ⟨_, e1, _, _, cv, fv, _, hset⟩ := Own1.at_ HR.out (Dag.ints_get hxa)
          injection e1 with e1; injection e1 with e1; subst e1
          have p3 := keep_cell HX1.out (flowO_cells HO1.out).2.2.2.1
          have s0 : wB.drew.cell? ⟨dl, u, none⟩ = some (.int .i64 du) ∧ wB.drew.cell? ⟨w.heap.size, 3, none⟩ = some (.slice (some ⟨b, off, none⟩) f.tasks.length c) ∧ wB.drew.cell? ⟨b, off + u * 6, none⟩ = some (.string (sb tk.name)) ∧ wB.drew.cell? ⟨b, off + u * 6 + 1, none⟩ = some (.int .i64 tk.nodes) ∧ wB.drew.cell? ⟨b, off + u * 6 + 2, none⟩ = some (.int .i64 tk.wall) ∧ wB.drew.cell? ⟨b, off + u * 6 + 3, none⟩ = some (.int .i64 tk.retry) ∧ wB.drew.cell? ⟨b, off + u * 6 + 4, none⟩ = some (.bool tk.done) ∧ wB.drew.cell? ⟨b, off + u * 6 + 5, none⟩ = some (.slice A2 tk.after.length c2) := ⟨cu, p3, h0, h1, h2, h3, h4, h5⟩
          have HXA := Lib.hid hxa; have HU := Lib.hid hu; have HUM := Lib.hid hum
          have HDU := Lib.hid hdu2; have HAV := Lib.hid hwu; have HSET := Lib.hid hset
          have hlb4 := World.block_lt_of_cell? wB _ c4
          clear hu hum htk hxu hxa hwu hdu2 hav hWt hset hI
          by_cases hle : du + av ≤ 1099511627775
          · obtain ⟨v1, e1⟩ := (add_two hd0 hdu hw0 hw1).1 hle
            go_wp2_with fail
            go_region_held3 (fun (W : World) => W.cell? ⟨dl, u, none⟩ = some (.int .i64 du) ∧ W.cell? ⟨w.heap.size, 3, none⟩ = some (.slice (some ⟨b, off, none⟩) f.tasks.length c) ∧ W.cell? ⟨b, off + u * 6, none⟩ = some (.string (sb tk.name)) ∧ W.cell? ⟨b, off + u * 6 + 1, none⟩ = some (.int .i64 tk.nodes) ∧ W.cell? ⟨b, off + u * 6 + 2, none⟩ = some (.int .i64 tk.wall) ∧ W.cell? ⟨b, off + u * 6 + 3, none⟩ = some (.int .i64 tk.retry) ∧ W.cell? ⟨b, off + u * 6 + 4, none⟩ = some (.bool tk.done) ∧ W.cell? ⟨b, off + u * 6 + 5, none⟩ = some (.slice A2 tk.after.length c2)) (first | exact s1 | exact s0 | exact ⟨keep_cell (al _ _) s1.1, keep_cell (al _ _) s1.2.1, keep_cell (al _ _) s1.2.2.1, keep_cell (al _ _) s1.2.2.2.1, keep_cell (al _ _) s1.2.2.2.2.1, keep_cell (al _ _) s1.2.2.2.2.2.1, keep_cell (al _ _) s1.2.2.2.2.2.2.1, keep_cell (al _ _) s1.2.2.2.2.2.2.2⟩) (first
              | (go_at_call 15; refine (HWT.out _).mono ?_; rintro e x1 ⟨rfl, hb1⟩; have s1 : x1.cell? ⟨dl, u, none⟩ = some (.int .i64 du) ∧ x1.cell? ⟨w.heap.size, 3, none⟩ = some (.slice (some ⟨b, off, none⟩) f.tasks.length c) ∧ x1.cell? ⟨b, off + u * 6, none⟩ = some (.string (sb tk.name)) ∧ x1.cell? ⟨b, off + u * 6 + 1, none⟩ = some (.int .i64 tk.nodes) ∧ x1.cell? ⟨b, off + u * 6 + 2, none⟩ = some (.int .i64 tk.wall) ∧ x1.cell? ⟨b, off + u * 6 + 3, none⟩ = some (.int .i64 tk.retry) ∧ x1.cell? ⟨b, off + u * 6 + 4, none⟩ = some (.bool tk.done) ∧ x1.cell? ⟨b, off + u * 6 + 5, none⟩ = some (.slice A2 tk.after.length c2) := ⟨keep_cell hb1 s0.1, keep_cell hb1 s0.2.1, keep_cell hb1 s0.2.2.1, keep_cell hb1 s0.2.2.2.1, keep_cell hb1 s0.2.2.2.2.1, keep_cell hb1 s0.2.2.2.2.2.1, keep_cell hb1 s0.2.2.2.2.2.2.1, keep_cell hb1 s0.2.2.2.2.2.2.2⟩; have HQ1 := Lib.hid (blw (drew_below wB) hb1); clear hb1)
              | (go_at_call 34; refine (add1_any du av _ _ (by simp) (du + av) 0 v1 e1).mono ?_; rintro e x3 ⟨rfl, rfl⟩))
            all_goals
              clear cu cv fv p3 s0 s1 h0 h1 h2 h3 h4 h5 c4 hlb4
              have hb5 := blw HQ1.out (al x1 (.cells #[.int .i64 av] 3))
              generalize x1.alloc (.cells #[.int .i64 av] 3) = w5 at hb5 ⊢
              have hr5 := HR.out.below hb5
              obtain ⟨_, e1, _, _, cv, fv, _, hset⟩ := Own1.at_ hr5 (Dag.ints_get HXA.out)
              injection e1 with e1; injection e1 with e1; subst e1
              have HRN : Hid (Own1 (w5.setCell ⟨dl, v, none⟩ (.int .i64 (max a (du + av)))) dl 3 (.slice (some ⟨dl, 0, none⟩) f.tasks.length f.tasks.length) (Dag.ints (xs.set v (max a (du + av))))) := Lib.hid (by
                have := hset (.int .i64 (max a (du + av)))
                rwa [show (Dag.ints xs).set v (.int .i64 (max a (du + av))) = Dag.ints (xs.set v (max a (du + av))) from by unfold Dag.ints; rw [List.map_set]] at this)
              have HXN : Hid (Below w1.heap.size w1 (w5.setCell ⟨dl, v, none⟩ (.int .i64 (max a (du + av))))) := Lib.hid ((blw HX1.out hb5).setCell (p := ⟨dl, v, none⟩) (by rw [HDL.out]; exact Nat.le_refl _) _)
              have HIN : Hid (Ints (w5.setCell ⟨dl, v, none⟩ (.int .i64 (max a (du + av)))) (some ⟨b3, o3, none⟩) co (num (order (afterL f.tasks)))) := Lib.hid (ints_other (HI.out.below hb5) fun a ha => by have := HFO.out a ha; omega)
              have HBN : Hid (Ints (w5.setCell ⟨dl, v, none⟩ (.int .i64 (max a (du + av)))) (some ⟨b4, o4, none⟩) cb (num R)) := Lib.hid (ints_other (HIB.out.below hb5) fun a ha => by have h1 := HFB.out a ha; have h2 := HDA.out; omega)
              have HJN := Lib.hid (HJ.out.step (u := u) (a := a) (by rw [HRE.out]; exact HU.out) hvl HXA.out (by rw [HDU.out, HAV.out]; exact hle))
              rw [HDU.out, HAV.out] at HJN
              clear hr5 hset hb5
              go_wp2
              go_roundw
              case rel => exact ⟨j + 1, _, by omega, by go_num, HJN, HRN, HXN, HIN, HBN⟩
              case measure => simp [intOf]; omega
          · obtain ⟨v1, e1⟩ := (add_two hd0 hdu hw0 hw1).2 (by omega)
            go_wp2_with fail
            go_region_held3 (fun (W : World) => W.cell? ⟨dl, u, none⟩ = some (.int .i64 du) ∧ W.cell? ⟨w.heap.size, 3, none⟩ = some (.slice (some ⟨b, off, none⟩) f.tasks.length c) ∧ W.cell? ⟨b, off + u * 6, none⟩ = some (.string (sb tk.name)) ∧ W.cell? ⟨b, off + u * 6 + 1, none⟩ = some (.int .i64 tk.nodes) ∧ W.cell? ⟨b, off + u * 6 + 2, none⟩ = some (.int .i64 tk.wall) ∧ W.cell? ⟨b, off + u * 6 + 3, none⟩ = some (.int .i64 tk.retry) ∧ W.cell? ⟨b, off + u * 6 + 4, none⟩ = some (.bool tk.done) ∧ W.cell? ⟨b, off + u * 6 + 5, none⟩ = some (.slice A2 tk.after.length c2)) (first | exact s1 | exact s0 | exact ⟨keep_cell (al _ _) s1.1, keep_cell (al _ _) s1.2.1, keep_cell (al _ _) s1.2.2.1, keep_cell (al _ _) s1.2.2.2.1, keep_cell (al _ _) s1.2.2.2.2.1, keep_cell (al _ _) s1.2.2.2.2.2.1, keep_cell (al _ _) s1.2.2.2.2.2.2.1, keep_cell (al _ _) s1.2.2.2.2.2.2.2⟩) (first
              | (go_at_call 15; refine (HWT.out _).mono ?_; rintro e x1 ⟨rfl, hb1⟩; have s1 : x1.cell? ⟨dl, u, none⟩ = some (.int .i64 du) ∧ x1.cell? ⟨w.heap.size, 3, none⟩ = some (.slice (some ⟨b, off, none⟩) f.tasks.length c) ∧ x1.cell? ⟨b, off + u * 6, none⟩ = some (.string (sb tk.name)) ∧ x1.cell? ⟨b, off + u * 6 + 1, none⟩ = some (.int .i64 tk.nodes) ∧ x1.cell? ⟨b, off + u * 6 + 2, none⟩ = some (.int .i64 tk.wall) ∧ x1.cell? ⟨b, off + u * 6 + 3, none⟩ = some (.int .i64 tk.retry) ∧ x1.cell? ⟨b, off + u * 6 + 4, none⟩ = some (.bool tk.done) ∧ x1.cell? ⟨b, off + u * 6 + 5, none⟩ = some (.slice A2 tk.after.length c2) := ⟨keep_cell hb1 s0.1, keep_cell hb1 s0.2.1, keep_cell hb1 s0.2.2.1, keep_cell hb1 s0.2.2.2.1, keep_cell hb1 s0.2.2.2.2.1, keep_cell hb1 s0.2.2.2.2.2.1, keep_cell hb1 s0.2.2.2.2.2.2.1, keep_cell hb1 s0.2.2.2.2.2.2.2⟩; have HQ1 := Lib.hid (blw (drew_below wB) hb1); clear hb1)
              | (go_at_call 34; refine (add1_any du av _ _ (by simp) (0) 6 v1 e1).mono ?_; rintro e x3 ⟨rfl, rfl⟩))
            all_goals
              have hE : rankE f (dnD f.tasks) = 6 := by
                unfold rankE
                rw [if_neg (fun e => e HX.out), if_neg]
                rw [dn_over HFU.out HUM.out (by rw [HDU.out, HAV.out]; unfold maxT; omega)]
                decide
              have HE := Lib.hid hE
              clear hE cu cv fv p3 s0 s1 h0 h1 h2 h3 h4 h5 c4 hlb4
              have HBX := Lib.hid (blw (blw HBW.out HQ1.out) (al x1 (.cells #[.int .i64 av] 3)))
              go_wp2
              go_ret2
              exact retU_err HE.out (by decide) HBX.out
        · obtain rfl : j = R.length := by omega
          have HK := Lib.hid (DnJ.done HFU.out HV.out (by rw [HRE.out]; exact HJ.out))
          go_wp2
          go_roundw
          case rel => exact ⟨k + 1, xs, by omega, by go_num, HK, HR, HX1, HI⟩
          case measure => simp [intOf]; omega
    · obtain rfl : k = f.tasks.length := by omega
      obtain ⟨hok, hxs⟩ := DnK.fin HFU.out HD.out
      have HOK := Lib.hid hok; have HXS := Lib.hid hxs
      clear hok hxs
      go_wp2
      go_ret2
      exact retU_ok HX.out HOK.out rfl HXS.out (Own1.sl HR.out).2 (HB1.out.trans (HX1.out.mono HB1.out.size))
end Go.Proofs.YtaiolhanbjndcaaDoor

