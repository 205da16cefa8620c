/- Layer 11. -/
import Derived.Test.YtapojmniokdjfaaBkMem
import Derived.Test.YtapojmniokdjfaaBkLay
import Derived.Test.YtapojmniokdjfaaBkA
import Derived.Shelf.SlSortCmp.NoneTotal
/- Layer 11: slices.SortFunc at steps and at reservations: by their times, and by their numbers. -/
namespace Go.Proofs.Ytapojmniokdjfaa.Bk
open Go.RowKit Go.Shelf Go.Sort Go.Proofs
open Stp (blw al dr drN kp Stp OwnS cmpV compare_any flat)
set_option linter.unusedVariables false
set_option maxRecDepth 100000

section
variable {α : Type} [Inhabited α] {enc : α → List Value} {k : Nat}
theorem holds_of (hk : ∀ x, (enc x).length = k) {w : World} {g : Nat} {l : List α} (h : ∀ j x, l[j]? = some x → ∀ i v, (enc x)[i]? = some v → w.cell? ⟨g, j * k + i, none⟩ = some v) (hf : ∀ j, w.frozen? ⟨g, j, none⟩ = false) : HoldsK enc k w g 0 l.toArray := by
  intro j hj
  rw [size_flatK, List.size_toArray] at hj
  rw [Nat.zero_add, get_flatK _ _ _ _ (by rw [List.size_toArray]; exact hj)]
  refine ⟨?_, hf j⟩
  have hk0 : 0 < k := by rcases Nat.eq_zero_or_pos k with e | e; · subst e; simp at hj
                         · exact e
  have h1 : j / k < l.length := Nat.div_lt_of_lt_mul (by rw [Nat.mul_comm]; exact hj)
  have h2 : j % k < k := Nat.mod_lt _ hk0
  have e1 : l.toArray[j / k]! = l[j / k] := by rw [getElem!_pos l.toArray (j / k) (by simpa using h1)]; simp
  rw [e1]
  have e2 : (enc l[j / k])[j % k]! = (enc l[j / k])[j % k]'(by rw [hk]; exact h2) := getElem!_pos _ _ (by rw [hk]; exact h2)
  have := h (j / k) l[j / k] (List.getElem?_eq_getElem h1) (j % k) _ (List.getElem?_eq_getElem (by rw [hk]; exact h2))
  rw [Nat.mul_comm, Nat.div_add_mod] at this
  rw [e2]
  exact this
theorem grown_sort (w : World) (g n : Nat) (d : Array α) (os : Array Obj) : w.grownBy (sortWorldK enc k w g 0 n d os) (some g) := by
  refine ⟨rfl, rfl, rfl, by unfold sortWorldK; rw [size_grow, size_putRowK]; exact Nat.le_add_right _ _, fun i hi hne => ?_⟩
  unfold sortWorldK grow putRowK putRow mapBlock
  have h1 : i ≠ g := fun e => hne (by rw [e])
  simp [Array.getElem?_append]
  show (if i < w.heap.size then (w.heap.modify g (onCells (putCells id 0 (flatK enc k d))))[i]? else os[i - w.heap.size]?) = w.heap[i]?
  rw [if_pos hi, Array.getElem?_modify]
  simp [Ne.symm h1]
theorem sort_cells (hk : ∀ x, (enc x).length = k) {w : World} {g n : Nat} {d d' : Array α} {os : Array Obj} (hg : g < w.heap.size) (hH : HoldsK enc k w g 0 d) (hs : d'.size = d.size) : ∀ j x, d'.toList[j]? = some x → ∀ i v, (enc x)[i]? = some v → (sortWorldK enc k w g 0 n d' os).cell? ⟨g, j * k + i, none⟩ = some v := by
  intro j x hx i v hv
  have hj := (List.getElem?_eq_some_iff.1 hx).1
  rw [Array.length_toList] at hj
  have hi : i < k := by have := (List.getElem?_eq_some_iff.1 hv).1; rwa [hk] at this
  have h0 := holdsK_sortWorldK enc k w g 0 n d d' os hg hH hs
  have hb : j * k + i < d'.size * k := by
    have := Nat.mul_le_mul_right k (show j + 1 ≤ d'.size from hj); rw [Nat.add_mul, Nat.one_mul] at this; omega
  have := (h0 (j * k + i) (by rw [size_flatK]; exact hb)).1
  rw [Nat.zero_add, get_flatK _ _ _ _ hb] at this
  have hk0 : 0 < k := by omega
  have q1 : (j * k + i) / k = j := by rw [Nat.mul_comm, Nat.mul_add_div hk0, Nat.div_eq_of_lt hi, Nat.add_zero]
  have q2 : (j * k + i) % k = i := by rw [Nat.mul_comm, Nat.mul_add_mod, Nat.mod_eq_of_lt hi]
  rw [q1, q2] at this
  have e1 : d'[j]! = x := by
    rw [getElem!_pos d' j hj, ← Array.getElem_toList]
    exact (List.getElem?_eq_some_iff.1 hx).2
  rw [e1] at this
  have e2 : (enc x)[i]! = v := by rw [getElem!_pos (enc x) i (List.getElem?_eq_some_iff.1 hv).1]; exact (List.getElem?_eq_some_iff.1 hv).2
  rw [e2] at this
  exact this
end
theorem perm_of {α : Type} [Inhabited α] {d d' : Array α} (h : PermIn 0 d.size d d') : d'.toList.Perm d.toList := by
  obtain ⟨h1, _, h3⟩ := h
  have e1 : d'.extract 0 d.size = d' := by rw [← h1]; simp
  have e2 : d.extract 0 d.size = d := by simp
  rw [e1, e2] at h3
  exact h3
theorem cmp_lt {x y : Int} : cmpV x y < 0 ↔ x < y := by unfold cmpV; split <;> (try split) <;> omega
def enc2 (s : StepD) : List Value := [.int .i64 s.at_, .int .i64 s.fr]
def enc4 (s : SlotD) : List Value := [.int .i64 s.id, .int .i64 s.fm, .int .i64 s.to, .int .i64 s.nd]
instance : Inhabited StepD := ⟨⟨0, 0⟩⟩
instance : Inhabited SlotD := ⟨⟨0, 0, 0, 0⟩⟩
theorem swo_at : SWO (ltOf fun s u : StepD => cmpV s.at_ u.at_) where
  irrefl x := by unfold ltOf; rw [decide_eq_false_iff_not, cmp_lt]; omega
  trans x y z h1 h2 := by unfold ltOf at *; rw [decide_eq_true_eq, cmp_lt] at *; omega
  ntrans x y z h1 h2 := by unfold ltOf at *; rw [decide_eq_false_iff_not, cmp_lt] at *; omega
theorem swo_id : SWO (ltOf fun s u : SlotD => cmpV s.id u.id) where
  irrefl x := by unfold ltOf; rw [decide_eq_false_iff_not, cmp_lt]; omega
  trans x y z h1 h2 := by unfold ltOf at *; rw [decide_eq_true_eq, cmp_lt] at *; omega
  ntrans x y z h1 h2 := by unfold ltOf at *; rw [decide_eq_false_iff_not, cmp_lt] at *; omega
theorem srt_of {α : Type} [Inhabited α] {f : α → Int} {d : Array α} {n : Nat} (hn : n = d.size) (h : SortedIn (ltOf fun s u : α => cmpV (f s) (f u)) 0 n d) : d.toList.Pairwise (fun a b => f a ≤ f b) := by
  rw [List.pairwise_iff_getElem]
  intro i j hi hj hij
  rw [Array.length_toList] at hi hj
  have := h i j (Nat.zero_le _) hij (by omega)
  unfold ltOf at this
  rw [decide_eq_false_iff_not, cmp_lt, getElem!_pos d i hi, getElem!_pos d j hj] at this
  simp only [Array.getElem_toList]
  omega
theorem scmp_any (s u : SlotD) (w : World) : Calls Try.prog 29 #[.agg #[.int .i64 s.id, .int .i64 s.fm, .int .i64 s.to, .int .i64 s.nd], .agg #[.int .i64 u.id, .int .i64 u.fm, .int .i64 u.to, .int .i64 u.nd]] w fun e w' => e = .returned (.int .i64 (cmpV s.id u.id)) ∧ ∃ q os', w' = grow (w.drewN q) os' := by
  have hx := fun (W : World) => compare_any s.id u.id W
  go_enter Try.func29, Try.ntmps29
  go_wp2_with fail
  refine (hx _).mono ?_
  rintro e w1 ⟨rfl, rfl⟩
  go_wp2
  go_ret
  exact ⟨rfl, 0, _, by rw [alloc_eq_grow, alloc_eq_grow, grow_grow]; rfl⟩
theorem pcmp_any (s u : StepD) (w : World) : Calls Try.prog 60 #[.agg #[.int .i64 s.at_, .int .i64 s.fr], .agg #[.int .i64 u.at_, .int .i64 u.fr]] w fun e w' => e = .returned (.int .i64 (cmpV s.at_ u.at_)) ∧ ∃ q os', w' = grow (w.drewN q) os' := by
  have hx := fun (W : World) => compare_any s.at_ u.at_ W
  go_enter Try.func60, Try.ntmps60
  go_wp2_with fail
  refine (hx _).mono ?_
  rintro e w1 ⟨rfl, rfl⟩
  go_wp2
  go_ret
  exact ⟨rfl, 0, _, by rw [alloc_eq_grow, alloc_eq_grow, grow_grow]; rfl⟩
/-- reservations of one's own, sorted by their numbers -/
theorem sortL_any (l : List SlotD) (g n c : Nat) (hn : l.length = n) (hb : n ≤ 1000000) (w : World) (h : ∃ cur : Array Value, w.heap[g]? = some (Obj.cells cur 32 (0, 0)) ∧ ∀ (i : Nat) (u : Value), (flat4 l)[i]? = some u → cur[i]? = some u) :
    Calls Try.prog 28 #[.slice (some ⟨g, 0, none⟩) n c, .func (.func 29) #[] #[]] w fun e w' => e = .returned (.tuple #[]) ∧ ∃ l' : List SlotD, l'.Perm l ∧ l'.Pairwise (fun a b => a.id ≤ b.id) ∧ (∀ j s, l'[j]? = some s → C4 w' g (j * 4) s) ∧ w.grownBy w' (some g) := by
  obtain ⟨cur, hh, hc⟩ := h
  have cell : ∀ i u, (flat4 l)[i]? = some u → w.cell? ⟨g, i, none⟩ = some u := fun i u hi => by
    rw [cell_of_row w g i cur _ (0, 0) hh]; exact hc i u hi
  have hk : ∀ x, (enc4 x).length = 4 := fun _ => rfl
  have hH : HoldsK enc4 4 w g 0 l.toArray := holds_of hk (fun j x hx i v hv => by
    obtain ⟨f0, f1, f2, f3⟩ := flat4_0 hx
    match i, hv with
    | 0, hv => injection hv with hv; subst hv; exact cell _ _ f0
    | 1, hv => injection hv with hv; subst hv; exact cell _ _ f1
    | 2, hv => injection hv with hv; subst hv; exact cell _ _ f2
    | 3, hv => injection hv with hv; subst hv; exact cell _ _ f3
    | i + 4, hv => simp [enc4] at hv) (fun j => Dag.blk_frozen hh j)
  have eg : ∀ args w, (callFunc 29 args).run Try.prog w = .ok (.enter 29 args) w := enters_of Try.func29 (by kernel_rfl) rfl
  have hcon := AnyQ.slices_SortFunc Try.laysSortL 4 (fun w => by kernel_rfl) (fun w => by kernel_rfl) enc4 hk (fun x v hv => by simp [enc4] at hv; rcases hv with rfl | rfl | rfl | rfl <;> rfl) (fun x y => cmpV x.id y.id) swo_id 29 #[] g 0 c l.toArray w eg (fun _ _ _ _ x y => scmp_any x y _) hH (Dag.blk_lt hh) (by rw [List.size_toArray]; omega)
  rw [List.size_toArray, hn] at hcon
  refine Calls.mono (show Calls Try.prog 28 _ _ _ from hcon) ?_
  rintro e w' ⟨rfl, d', m, os, hp, hs, rfl⟩
  have hsz : d'.size = l.toArray.size := by have := hp.1; rw [this]
  have hp2 : PermIn 0 l.toArray.size l.toArray d' := by rw [List.size_toArray, hn]; exact hp
  refine ⟨rfl, d'.toList, perm_of hp2, srt_of (f := SlotD.id) (by rw [hsz, List.size_toArray, hn]) hs, fun j s hj => ?_, grown_sort w g m d' os⟩
  have hcl := sort_cells (enc := enc4) (k := 4) hk (n := m) (os := os) (Dag.blk_lt hh) hH hsz j s hj
  exact ⟨hcl 0 _ rfl, hcl 1 _ rfl, hcl 2 _ rfl, hcl 3 _ rfl⟩
/-- steps of one's own, sorted by their times -/
theorem sortT_any (l : List StepD) (g n c : Nat) (hn : l.length = n) (hb : n ≤ 1000000) (w : World) (h : ∃ cur : Array Value, w.heap[g]? = some (Obj.cells cur 58 (0, 0)) ∧ ∀ (i : Nat) (u : Value), (flat l)[i]? = some u → cur[i]? = some u) :
    Calls Try.prog 59 #[.slice (some ⟨g, 0, none⟩) n c, .func (.func 60) #[] #[]] w fun e w' => e = .returned (.tuple #[]) ∧ ∃ l' : List StepD, l'.Perm l ∧ l'.Pairwise (fun a b => a.at_ ≤ b.at_) ∧ (∀ j s, l'[j]? = some s → w'.cell? ⟨g, j * 2, none⟩ = some (.int .i64 s.at_) ∧ w'.cell? ⟨g, j * 2 + 1, none⟩ = some (.int .i64 s.fr)) ∧ w.grownBy w' (some g) := by
  obtain ⟨cur, hh, hc⟩ := h
  have cell : ∀ i u, (flat l)[i]? = some u → w.cell? ⟨g, i, none⟩ = some u := fun i u hi => by
    rw [cell_of_row w g i cur _ (0, 0) hh]; exact hc i u hi
  have hk : ∀ x, (enc2 x).length = 2 := fun _ => rfl
  have hH : HoldsK enc2 2 w g 0 l.toArray := holds_of hk (fun j x hx i v hv => by
    obtain ⟨f0, f1⟩ := Stp.flat_0 hx
    match i, hv with
    | 0, hv => injection hv with hv; subst hv; exact cell _ _ f0
    | 1, hv => injection hv with hv; subst hv; exact cell _ _ f1
    | i + 2, hv => simp [enc2] at hv) (fun j => Dag.blk_frozen hh j)
  have eg : ∀ args w, (callFunc 60 args).run Try.prog w = .ok (.enter 60 args) w := enters_of Try.func60 (by kernel_rfl) rfl
  have hcon := AnyQ.slices_SortFunc Try.laysSortT 2 (fun w => by kernel_rfl) (fun w => by kernel_rfl) enc2 hk (fun x v hv => by simp [enc2] at hv; rcases hv with rfl | rfl <;> rfl) (fun x y => cmpV x.at_ y.at_) swo_at 60 #[] g 0 c l.toArray w eg (fun _ _ _ _ x y => pcmp_any x y _) hH (Dag.blk_lt hh) (by rw [List.size_toArray]; omega)
  rw [List.size_toArray, hn] at hcon
  refine Calls.mono (show Calls Try.prog 59 _ _ _ from hcon) ?_
  rintro e w' ⟨rfl, d', m, os, hp, hs, rfl⟩
  have hsz : d'.size = l.toArray.size := by have := hp.1; rw [this]
  have hp2 : PermIn 0 l.toArray.size l.toArray d' := by rw [List.size_toArray, hn]; exact hp
  refine ⟨rfl, d'.toList, perm_of hp2, srt_of (f := StepD.at_) (by rw [hsz, List.size_toArray, hn]) hs, fun j s hj => ?_, grown_sort w g m d' os⟩
  have hcl := sort_cells (enc := enc2) (k := 2) hk (n := m) (os := os) (Dag.blk_lt hh) hH hsz j s hj
  exact ⟨hcl 0 _ rfl, hcl 1 _ rfl⟩
end Go.Proofs.Ytapojmniokdjfaa.Bk
/- Layer 11 in plain words: what is free, with reservations more, or less. No program. -/
namespace Go.Proofs.Ytapojmniokdjfaa.Bk
open Stp (inW)
set_option linter.unusedVariables false

def dSum : List StepD → Int → Int
  | [], _ => 0
  | s :: l, t => (if s.at_ ≤ t then s.fr else 0) + dSum l t
theorem dSum_app (t : Int) : ∀ l m : List StepD, dSum (l ++ m) t = dSum l t + dSum m t
  | [], m => by simp [dSum]
  | s :: l, m => by simp only [List.cons_append, dSum, dSum_app t l m]; omega
theorem dSum_perm {l m : List StepD} (h : l.Perm m) (t : Int) : dSum l t = dSum m t := by
  induction h with
  | nil => rfl
  | cons x _ ih => simp only [dSum, ih]
  | swap x y l => simp only [dSum]; omega
  | trans _ _ ih1 ih2 => rw [ih1, ih2]
theorem dSum_zero {t : Int} : ∀ {l : List StepD}, (∀ s ∈ l, t < s.at_) → dSum l t = 0
  | [], _ => rfl
  | s :: l, h => by
    have h1 := h s (by simp)
    have h2 : dSum l t = 0 := dSum_zero fun u hu => h u (by simp [hu])
    simp only [dSum, h2]; rw [if_neg (by omega)]; rfl
/-- what changes, from step to step -/
def difL : Int → List StepD → List StepD
  | _, [] => []
  | p, s :: l => ⟨s.at_, s.fr - p⟩ :: difL s.fr l
theorem difL_len : ∀ (p : Int) (l : List StepD), (difL p l).length = l.length
  | _, [] => rfl
  | p, s :: l => by simp only [difL, List.length_cons, difL_len s.fr l]
theorem rise_gt : ∀ {l : List StepD} {lo : Int}, Rise lo l → ∀ s ∈ l, lo < s.at_
  | [], _, _, s, h => by cases h
  | a :: l, lo, ⟨h1, h2⟩, s, h => by
    rcases List.mem_cons.1 h with rfl | h
    · exact h1
    · have := rise_gt h2 s h; omega
theorem difL_at : ∀ {l : List StepD} {p a : Int}, (∃ s ∈ difL p l, s.at_ = a) ↔ ∃ s ∈ l, s.at_ = a
  | [], p, a => by simp [difL]
  | s :: l, p, a => by
    have ih := difL_at (l := l) (p := s.fr) (a := a)
    simp only [difL, List.mem_cons]
    constructor
    · rintro ⟨x, rfl | hx, rfl⟩
      · exact ⟨s, Or.inl rfl, rfl⟩
      · obtain ⟨y, hy, e⟩ := ih.1 ⟨x, hx, rfl⟩; exact ⟨y, Or.inr hy, e⟩
    · rintro ⟨x, rfl | hx, rfl⟩
      · exact ⟨_, Or.inl rfl, rfl⟩
      · obtain ⟨y, hy, e⟩ := ih.2 ⟨x, hx, rfl⟩; exact ⟨y, Or.inr hy, e⟩
theorem dSum_dif : ∀ {l : List StepD} {lo p t : Int}, Rise lo l → dSum (difL p l) t = valF p l t - p
  | [], _, p, t, _ => by simp [difL, dSum, valF]
  | s :: l, lo, p, t, ⟨h1, h2⟩ => by
    have ih := dSum_dif (p := s.fr) (t := t) h2
    simp only [difL, dSum, ih]
    by_cases h : s.at_ ≤ t
    · rw [if_pos h, val_cons h]; omega
    · rw [if_neg h, val_ahead (by omega), val_low h2 (by omega)]; omega
def slD (k : Int) : List SlotD → List StepD
  | [] => []
  | s :: l => ⟨s.fm, k * s.nd⟩ :: ⟨s.to, -k * s.nd⟩ :: slD k l
theorem slD_len (k : Int) : ∀ l : List SlotD, (slD k l).length = 2 * l.length
  | [] => rfl
  | s :: l => by simp only [slD, List.length_cons, slD_len k l]; omega
theorem slD_app (k : Int) (s : SlotD) : ∀ l : List SlotD, slD k (l ++ [s]) = slD k l ++ [⟨s.fm, k * s.nd⟩, ⟨s.to, -k * s.nd⟩]
  | [] => rfl
  | a :: l => by simp only [List.cons_append, slD, slD_app k s l]
def takK (k : Int) : List SlotD → Int → Int
  | [], _ => 0
  | s :: l, t => inW s.fm s.to (k * s.nd) t + takK k l t
theorem tak_one : ∀ (l : List SlotD) (t : Int), takK 1 l t = takV l t
  | [], _ => rfl
  | s :: l, t => by simp only [takK, takV, tak_one l t, Int.one_mul]
theorem tak_neg : ∀ (l : List SlotD) (t : Int), takK (-1) l t = - takV l t
  | [], _ => rfl
  | s :: l, t => by
    have e : inW s.fm s.to (-1 * s.nd) t = - inW s.fm s.to s.nd t := by unfold inW; split <;> omega
    simp only [takK, takV, tak_neg l t, e]; omega
theorem dSum_sl (k t : Int) : ∀ {l : List SlotD}, (∀ s ∈ l, s.fm ≤ s.to) → dSum (slD k l) t = takK k l t
  | [], _ => rfl
  | s :: l, h => by
    have ih := dSum_sl k t (l := l) fun u hu => h u (by simp [hu])
    have hs := h s (by simp)
    simp only [slD, dSum, takK, ih, Int.neg_mul]
    unfold inW
    by_cases h1 : s.fm ≤ t
    · by_cases h2 : s.to ≤ t
      · rw [if_pos h1, if_pos h2, if_neg (by omega)]; omega
      · rw [if_pos h1, if_neg h2, if_pos (by omega)]; omega
    · rw [if_neg h1, if_neg (by omega), if_neg (by omega)]; omega
/-- the changes -/
def chgL (l : List StepD) (L : List SlotD) (k : Int) : List StepD := difL 0 l ++ slD k L
theorem chgL_len (l : List StepD) (L : List SlotD) (k : Int) : (chgL l L k).length = l.length + 2 * L.length := by unfold chgL; rw [List.length_append, difL_len, slD_len]
theorem difL_bd : ∀ {l : List StepD} {p : Int}, (-20000 ≤ p ∧ p ≤ 20000) → (∀ s ∈ l, -20000 ≤ s.fr ∧ s.fr ≤ 20000) → ∀ s ∈ difL p l, -40000 ≤ s.fr ∧ s.fr ≤ 40000
  | [], _, _, _, s, h => by cases h
  | a :: l, p, hp, hl, s, h => by
    have ha := hl a (by simp)
    rcases List.mem_cons.1 h with rfl | h
    · show -40000 ≤ a.fr - p ∧ a.fr - p ≤ 40000; omega
    · exact difL_bd ha (fun u hu => hl u (by simp [hu])) s h
theorem slD_bd {k : Int} (hk : k = 1 ∨ k = -1) : ∀ {L : List SlotD}, (∀ s ∈ L, 1 ≤ s.nd ∧ s.nd ≤ 10000) → ∀ s ∈ slD k L, -40000 ≤ s.fr ∧ s.fr ≤ 40000
  | [], _, s, h => by cases h
  | a :: L, hL, s, h => by
    have ha := hL a (by simp)
    simp only [slD, List.mem_cons] at h
    rcases h with rfl | rfl | h
    · show -40000 ≤ k * a.nd ∧ k * a.nd ≤ 40000; rcases hk with rfl | rfl <;> omega
    · show -40000 ≤ -k * a.nd ∧ -k * a.nd ≤ 40000; rcases hk with rfl | rfl <;> omega
    · exact slD_bd hk (fun u hu => hL u (by simp [hu])) s h
theorem chgL_bd {l : List StepD} {L : List SlotD} {k : Int} (hk : k = 1 ∨ k = -1) (hl : ∀ s ∈ l, -20000 ≤ s.fr ∧ s.fr ≤ 20000) (hL : ∀ s ∈ L, 1 ≤ s.nd ∧ s.nd ≤ 10000) : ∀ s ∈ chgL l L k, -40000 ≤ s.fr ∧ s.fr ≤ 40000 := fun s hs => by
  rcases List.mem_append.1 hs with h | h
  · exact difL_bd (by omega) hl s h
  · exact slD_bd hk hL s h
/-- added up -/
def cumL : Int → List StepD → List StepD
  | _, [] => []
  | a, [s] => [⟨s.at_, a + s.fr⟩]
  | a, s :: u :: l => if s.at_ < u.at_ then ⟨s.at_, a + s.fr⟩ :: cumL (a + s.fr) (u :: l) else cumL (a + s.fr) (u :: l)
theorem cumL_len : ∀ (X : List StepD) (a : Int), (cumL a X).length ≤ X.length
  | [], _ => Nat.le_refl _
  | [s], _ => Nat.le_refl _
  | s :: u :: l, a => by
    have := cumL_len (u :: l) (a + s.fr)
    unfold cumL
    split <;> simp only [List.length_cons] at this ⊢ <;> omega
theorem cumL_at : ∀ {X : List StepD} {a b : Int}, X.Pairwise (fun s u => s.at_ ≤ u.at_) → ((∃ s ∈ cumL a X, s.at_ = b) ↔ ∃ s ∈ X, s.at_ = b)
  | [], a, b, _ => by simp [cumL]
  | [s], a, b, _ => by simp [cumL]
  | s :: u :: l, a, b, h => by
    have ih := cumL_at (a := a + s.fr) (b := b) (List.pairwise_cons.1 h).2
    have hsu := (List.pairwise_cons.1 h).1 u (by simp)
    unfold cumL
    by_cases c : s.at_ < u.at_
    · rw [if_pos c]
      simp only [List.mem_cons] at ih ⊢
      constructor
      · rintro ⟨x, rfl | hx, rfl⟩
        · exact ⟨s, Or.inl rfl, rfl⟩
        · obtain ⟨y, hy, e⟩ := ih.1 ⟨x, hx, rfl⟩; exact ⟨y, Or.inr hy, e⟩
      · rintro ⟨x, rfl | hx, rfl⟩
        · exact ⟨_, Or.inl rfl, rfl⟩
        · obtain ⟨y, hy, e⟩ := ih.2 ⟨x, hx, rfl⟩; exact ⟨y, Or.inr hy, e⟩
    · rw [if_neg c, ih]
      constructor
      · rintro ⟨x, hx, e⟩; exact ⟨x, List.mem_cons_of_mem _ hx, e⟩
      · rintro ⟨x, hx, e⟩
        rcases List.mem_cons.1 hx with rfl | hx
        · exact ⟨u, by simp, by omega⟩
        · exact ⟨x, hx, e⟩
theorem cumL_rise : ∀ {X : List StepD} {a lo : Int}, X.Pairwise (fun s u => s.at_ ≤ u.at_) → (∀ s ∈ X, lo < s.at_) → Rise lo (cumL a X)
  | [], _, _, _, _ => trivial
  | [s], a, lo, _, h => ⟨h s (by simp), trivial⟩
  | s :: u :: l, a, lo, hp, h => by
    obtain ⟨h1, h2⟩ := List.pairwise_cons.1 hp
    unfold cumL
    by_cases c : s.at_ < u.at_
    · rw [if_pos c]
      refine ⟨h s (by simp), cumL_rise h2 fun x hx => ?_⟩
      show s.at_ < x.at_
      rcases List.mem_cons.1 hx with rfl | hx
      · exact c
      · have := (List.pairwise_cons.1 h2).1 x hx; omega
    · rw [if_neg c]
      exact cumL_rise h2 fun x hx => h x (List.mem_cons_of_mem _ hx)
theorem cumL_val : ∀ {s : StepD} {l : List StepD} {a d t : Int}, (s :: l).Pairwise (fun s u => s.at_ ≤ u.at_) → valF d (cumL a (s :: l)) t = if s.at_ ≤ t then a + dSum (s :: l) t else d
  | s, [], a, d, t, _ => by
    simp only [cumL, valF, dSum]
    by_cases h : s.at_ ≤ t
    · rw [if_pos h, if_pos h, if_pos h]; omega
    · rw [if_neg h, if_neg h]
  | s, u :: l, a, d, t, hp => by
    obtain ⟨h1, h2⟩ := List.pairwise_cons.1 hp
    have hsu := h1 u (by simp)
    unfold cumL
    have hd : dSum (s :: u :: l) t = (if s.at_ ≤ t then s.fr else 0) + dSum (u :: l) t := rfl
    by_cases c : s.at_ < u.at_
    · rw [if_pos c]
      by_cases h : s.at_ ≤ t
      · rw [val_cons (by exact h), cumL_val h2, if_pos h, hd, if_pos h]
        by_cases k : u.at_ ≤ t
        · rw [if_pos k]; show a + s.fr + _ = _; omega
        · rw [if_neg k, dSum_zero (l := u :: l) (fun x hx => by
            rcases List.mem_cons.1 hx with rfl | hx
            · omega
            · have := (List.pairwise_cons.1 h2).1 x hx; omega)]
          show a + s.fr = _; omega
      · rw [val_ahead (by show t < s.at_; omega), if_neg h]
    · rw [if_neg c, cumL_val h2, hd]
      by_cases h : s.at_ ≤ t
      · rw [if_pos h, if_pos h, if_pos (by omega)]; omega
      · rw [if_neg h, if_neg (by omega)]
/-- the steps with so many more, in one list -/
structure PlusR (l : List StepD) (L : List SlotD) (k : Int) (R : List StepD) : Prop where
  rise : Rise (-1) R
  val : ∀ t, valF 0 R t = valF 0 l t + takK k L t
  at_ : ∀ a, (∃ s ∈ R, s.at_ = a) ↔ (∃ s ∈ l, s.at_ = a) ∨ ∃ s ∈ L, s.fm = a ∨ s.to = a
  len : R.length ≤ l.length + 2 * L.length
theorem slD_at {k a : Int} : ∀ {L : List SlotD}, (∃ s ∈ slD k L, s.at_ = a) ↔ ∃ s ∈ L, s.fm = a ∨ s.to = a
  | [] => by simp [slD]
  | s :: L => by
    have ih := slD_at (k := k) (a := a) (L := L)
    simp only [slD, List.mem_cons]
    constructor
    · rintro ⟨x, rfl | rfl | hx, rfl⟩
      · exact ⟨s, Or.inl rfl, Or.inl rfl⟩
      · exact ⟨s, Or.inl rfl, Or.inr rfl⟩
      · obtain ⟨y, hy, e⟩ := ih.1 ⟨x, hx, rfl⟩; exact ⟨y, Or.inr hy, e⟩
    · rintro ⟨x, rfl | hx, e⟩
      · rcases e with rfl | rfl
        · exact ⟨_, Or.inl rfl, rfl⟩
        · exact ⟨_, Or.inr (Or.inl rfl), rfl⟩
      · obtain ⟨y, hy, e⟩ := ih.2 ⟨x, hx, e⟩; exact ⟨y, Or.inr (Or.inr hy), e⟩
theorem chgL_at {l : List StepD} {L : List SlotD} {k a : Int} : (∃ s ∈ chgL l L k, s.at_ = a) ↔ (∃ s ∈ l, s.at_ = a) ∨ ∃ s ∈ L, s.fm = a ∨ s.to = a := by
  unfold chgL
  rw [← difL_at (l := l) (p := 0) (a := a), ← slD_at (L := L) (k := k) (a := a)]
  constructor
  · rintro ⟨x, hx, e⟩
    rcases List.mem_append.1 hx with h | h
    · exact Or.inl ⟨x, h, e⟩
    · exact Or.inr ⟨x, h, e⟩
  · rintro (⟨x, hx, e⟩ | ⟨x, hx, e⟩)
    · exact ⟨x, List.mem_append.2 (Or.inl hx), e⟩
    · exact ⟨x, List.mem_append.2 (Or.inr hx), e⟩
theorem plus_of {l : List StepD} {L : List SlotD} {k : Int} {X : List StepD} (hl : Rise (-1) l) (hL : ∀ s ∈ L, 0 ≤ s.fm ∧ s.fm ≤ s.to) (hp : X.Perm (chgL l L k)) (hs : X.Pairwise (fun s u => s.at_ ≤ u.at_)) : PlusR l L k (cumL 0 X) := by
  have hm : ∀ a, (∃ s ∈ X, s.at_ = a) ↔ ∃ s ∈ chgL l L k, s.at_ = a := fun a => by
    constructor
    · rintro ⟨x, hx, e⟩; exact ⟨x, hp.mem_iff.1 hx, e⟩
    · rintro ⟨x, hx, e⟩; exact ⟨x, hp.mem_iff.2 hx, e⟩
  have hlow : ∀ s ∈ X, -1 < s.at_ := fun s hs => by
    rcases chgL_at.1 ((hm s.at_).1 ⟨s, hs, rfl⟩) with ⟨u, hu, e⟩ | ⟨u, hu, e⟩
    · have := rise_gt hl u hu; omega
    · have := hL u hu; omega
  refine ⟨cumL_rise hs hlow, fun t => ?_, fun a => by rw [cumL_at hs, hm, chgL_at], by have := cumL_len X 0; have := hp.length_eq; rw [chgL_len] at this; omega⟩
  have hd : dSum X t = valF 0 l t + takK k L t := by
    rw [dSum_perm hp, chgL, dSum_app, dSum_dif hl, dSum_sl k t fun s hs => (hL s hs).2]; omega
  cases X with
  | nil => rw [← hd]; rfl
  | cons s X =>
    rw [cumL_val hs]
    by_cases h : s.at_ ≤ t
    · rw [if_pos h, hd]; omega
    · rw [if_neg h, ← hd, dSum_zero]
      intro u hu
      rcases List.mem_cons.1 hu with rfl | hu
      · omega
      · have := (List.pairwise_cons.1 hs).1 u hu; omega
end Go.Proofs.Ytapojmniokdjfaa.Bk
/- Layer 11: Slots. -/
namespace Go.Proofs.Ytapojmniokdjfaa.Bk
open Go.RowKit Go.Shelf
open Stp (blw al dr drN kp Stp OwnS)
set_option linter.unusedVariables false
set_option maxRecDepth 100000

theorem sort0_any (A : Option Addr) (c : Nat) (w : World) :
    Calls Try.prog 28 #[.slice A 0 c, .func (.func 29) #[] #[]] w fun e w' => e = .returned (.tuple #[]) ∧ Below w.heap.size w w' := by
  have h := AnyF.slices_SortFunc_none Try.laysSortL A c (.func (.func 29) #[] #[]) w
  refine Calls.mono (show Calls Try.prog 28 _ _ _ from h) ?_
  rintro e w' ⟨rfl, rfl⟩
  exact ⟨rfl, Below.refl _ _⟩
/-- reservations in rows, by their numbers -/
def RetL (L : List SlotD) (w : World) (e : Ending) (w' : World) : Prop := ∃ A c, e = .returned (.slice A L.length c) ∧ Slt w' A c L ∧ Below w.heap.size w w'
/-- the reservations that have come out of a map -/
structure Out (L l : List SlotD) (left : Lit → Bool) : Prop where
  mem : ∀ s, s ∈ l ↔ s ∈ L ∧ left (.int .i64 s.id) = false
  one : l.Pairwise (fun a b => a.id ≠ b.id)
theorem out_done {L l : List SlotD} {left : Lit → Bool} (h : Out L l left) (hl : ∀ k, left k = false) (hr : RiseI 0 L) {l' : List SlotD} (hp : l'.Perm l) (hs : l'.Pairwise (fun a b => a.id ≤ b.id)) : l' = L := by
  have h1 : l'.Pairwise (fun a b => a.id ≠ b.id) := (hp.pairwise_iff (fun {a b} e => Ne.symm e)).2 h.one
  have h2 : l'.Pairwise (fun a b => a.id < b.id) := by
    refine (hs.and h1).imp ?_
    rintro a b ⟨q1, q2⟩
    omega
  have hm : ∀ s, s ∈ l' ↔ s ∈ L := fun s => by rw [hp.mem_iff, h.mem]; simp [hl]
  have key : ∀ (m : List SlotD) (lo : Int), m.Pairwise (fun a b => a.id < b.id) → (∀ s ∈ m, lo < s.id) → RiseI lo m := by
    intro m
    induction m with
    | nil => intros; trivial
    | cons a m ih =>
      intro lo hm hlo
      rw [List.pairwise_cons] at hm
      exact ⟨hlo a (by simp), ih a.id hm.2 fun s hs => hm.1 s hs⟩
  exact rise_uniq (key l' 0 h2 fun s hs => hr.gt s ((hm s).1 hs)) hr hm
theorem out_start {L : List SlotD} {D : DataW Unit} (hd : MapD D L) (hr : RiseI 0 L) : Out L [] (Maps.has D) :=
  ⟨fun s => ⟨fun h => (by cases h), fun ⟨h1, h2⟩ => by rw [hd.has, fnd_mem hr h1] at h2; cases h2⟩, List.Pairwise.nil⟩
theorem out_step {L l : List SlotD} {D : DataW Unit} {left : Lit → Bool} (h : Out L l left) (hd : MapD D L) (hr : RiseI 0 L) {x : Int} {c : SlotD} (hl : left (.int .i64 x) = true) (hat : ∀ zd, D.atKey (.int .i64 x) zd = sld c) (hlD : ∃ s ∈ L, s.id = x) (hK : WideAt.IsKeyLit (.int .i64 x)) : x = c.id ∧ Out L (l ++ [c]) (fun z => left z && !z.sameKey (.int .i64 x)) := by
  obtain ⟨s, hs, rfl⟩ := hlD
  have e := hd.at_ s hs (.nil)
  rw [hat] at e
  obtain rfl := sld_inj e
  refine ⟨rfl, fun u => ?_, ?_⟩
  · rw [List.mem_append, List.mem_singleton, h.mem]
    constructor
    · rintro (⟨h1, h2⟩ | rfl)
      · exact ⟨h1, by rw [h2]; rfl⟩
      · exact ⟨hs, by rw [WideAt.sameKey_self hK]; simp⟩
    · rintro ⟨h1, h2⟩
      by_cases e : u.id = c.id
      · exact Or.inr (rise_inj hr h1 hs e)
      · left
        refine ⟨h1, ?_⟩
        rw [Maps.sameKey_ne (by intro q; injection q with _ q; exact e q)] at h2
        simpa using h2
  · rw [List.pairwise_append]
    refine ⟨h.one, List.pairwise_singleton _ _, fun a ha b hb => ?_⟩
    rw [List.mem_singleton] at hb
    subst hb
    intro e
    have := (h.mem a).1 ha
    rw [e, hl] at this
    exact absurd this.2 (by decide)
set_option maxHeartbeats 1600000 in
theorem slots_any (w : World) (g m : Nat) (N : Int) (F : List StepD) (L : List SlotD) (hr : RiseI 0 L) (hl : L.length ≤ 1000) (h : BookM w g m N F L) :
    Calls Try.prog 12 #[.pointer (some ⟨g, 0, none⟩)] w (RetL L w) := by
  obtain ⟨D, ho, hd⟩ := h.map.own
  have hk := tight ho
  obtain ⟨A, c, hs, d0, d1, d2, df⟩ := h.cells
  have HR := Lib.hid hr; have HD := Lib.hid hd; have HL := Lib.hid hl
  have hml := h.map.lt
  have HML := Lib.hid hml
  clear hs d0 d2 df h hr hd hk hml
  obtain ⟨nL, hnL⟩ : ∃ nL, L.length = nL := ⟨_, rfl⟩
  rw [hnL] at ho
  have HNL := Lib.hid hnL
  clear hnL hl
  go_enter Try.func12, Try.ntmps12
  go_wp2_with (at_range; refine wpList_range_own _ rfl _ 63 rfl 3 32 keyed Try.underlying63 slR m nL D rfl ho ?_; intro w0 hrg0 hg0 hs0)
  have HHB0 : Hid (Below w.heap.size w w0) := Lib.hid ⟨hg0.os, hg0.tape, hg0.output, hg0.size, fun i hi => hg0.block i hi (by simp)⟩
  have HSZ0 : Hid (w0.heap.size = w.heap.size + 1) := Lib.hid hs0
  have HSD : Hid (Maps.size D = nL) := Lib.hid (HD.out.size.trans HNL.out)
  have HRG0 := Lib.hid hrg0
  clear hg0 hs0 hrg0 ho
  go_frame
  go_loopw [3] (fun vl wr => ∃ (l : List SlotD) (A : Option Addr) (ca : Nat) (left : Lit → Bool) (cnt : Nat), vl = .slice A l.length ca ∧ Hid (l.length + cnt ≤ nL) ∧ Hid (wr.ranges Try.prog 3 slR m w.heap.size nL D left cnt) ∧ Hid (OwnL wr w0.heap.size (.slice A l.length ca) l) ∧ Hid (Below w.heap.size w wr) ∧ Hid (w0.heap.size ≤ wr.heap.size) ∧ Hid (Out L l left)) (fun _ wr => wr.rangeLeft m w.heap.size)
  case atStart => exact ⟨[], none, 0, _, _, rfl, Lib.hid (by rw [HSD.out]; simp), HRG0, Lib.hid (OwnL.nil _ _), HHB0, Lib.hid (Nat.le_refl _), Lib.hid (out_start HD.out HR.out)⟩
  case round =>
    obtain ⟨l, A1, ca, left, cnt, rfl, HLC, HRG, HO, HB, HZ, HOUT⟩ := hrel
    go_wp2_with (at_next; refine wpList_next_ranges _ rfl _ rfl 3 keyed slR (Value.int .i64) (fun s : SlotD => .agg #[.int .i64 s.id, .int .i64 s.fm, .int .i64 s.to, .int .i64 s.nd]) (fun key kl hkey => by obtain ⟨x, rfl, _⟩ := Maps.keyOf_int_inv Try.underlying3 hkey; exact ⟨x, rfl⟩) (fun v y hv => by obtain ⟨c, rfl, _⟩ := slR_inv hv; exact ⟨c, rfl⟩) m w.heap.size nL D left cnt rfl HRG.out ?_ ?_)
    · intro hc0 hl0
      have HL0 := Lib.hid hl0
      clear hl0 hc0
      rcases own_cells HO.out with ⟨hv, hl⟩ | ⟨q, cap, hv, hq, hq2, h1, h2, hcur⟩
      · subst hl
        injection hv with hv1 hv2 hv3
        subst hv1 hv3
        have hLe := out_done HOUT.out HL0.out HR.out (List.Perm.refl _) List.Pairwise.nil
        have HLE := Lib.hid hLe
        clear hLe
        go_wp2_with fail
        refine (sort0_any _ _ _).mono ?_
        rintro e w2 ⟨rfl, hb2⟩
        have HB2 := Lib.hid (blw HB.out hb2)
        clear hb2
        go_wp2
        go_ret
        rw [← HLE.out]
        exact ⟨none, 0, rfl, Slt.empty _, HB2.out⟩
      · injection hv with hv1 hv2 hv3
        subst hv1 hv3
        obtain ⟨n1, hn1⟩ : ∃ n1, l.length = n1 := ⟨_, rfl⟩
        have HS := Lib.hid (sortL_any l q n1 ca hn1 (by have := HLC.out; have := HL.out; have := HNL.out; omega) wr hcur)
        have HQ := Lib.hid (And.intro hq (And.intro h1 h2))
        rw [hn1]
        have HN1 := Lib.hid hn1
        clear hcur hq hq2 h1 h2 hn1
        go_wp2_with fail
        refine HS.out.mono ?_
        rintro e w2 ⟨rfl, l', hp, hsr, hc4, hg2⟩
        have hLe := out_done HOUT.out HL0.out HR.out hp hsr
        subst hLe
        have HC4 := Lib.hid hc4
        have HB2 := Lib.hid (hg2.below HB.out (by have := HQ.out.1; have := HSZ0.out; omega) HB.out.size)
        have HLN := Lib.hid (hp.length_eq.trans HN1.out)
        clear hc4 hg2 hp hsr
        go_wp2
        go_ret
        exact ⟨some ⟨q, 0, none⟩, ca, by rw [HLN.out]; rfl, ⟨fun k s hk => ⟨q, 0, rfl, by rw [Nat.zero_add]; exact HC4.out k s hk⟩, by rw [HLN.out]; have := HQ.out.2.1; have := HN1.out; omega, HQ.out.2.2, fun e => by cases e⟩, HB2.out⟩
    · intro x c kl ya yb w1 cnt1 hkey hlx hR hat hrg1 hlt hg1 hs1 hen
      obtain ⟨x', ex, rfl, hwx⟩ := Maps.keyOf_int_inv Try.underlying3 hkey
      injection ex with _ ex
      subst ex
      obtain ⟨c', ec, eyy⟩ := slR_inv hR
      injection eyy with eya eyb
      subst eya
      have ecc : c = c' := by
        injection ec with ec
        simp at ec
        exact slotD_ext ec.1 ec.2.1 ec.2.2.1 ec.2.2.2
      subst ecc
      have hhas := Maps.has_true_of_atKey hat
      rw [HD.out.has] at hhas
      obtain ⟨s0, hs0⟩ := Option.isSome_iff_exists.1 hhas
      obtain ⟨hm0, hid0⟩ := fnd_some hs0
      obtain ⟨rfl, hout⟩ := out_step HOUT.out HD.out HR.out hlx hat ⟨s0, hm0, hid0⟩ (key_lit hwx)
      have HOUT1 := Lib.hid hout
      have HRG1 := Lib.hid hrg1
      have HLT := Lib.hid hlt
      have HG1 := Lib.hid hg1
      have HO1 := Lib.hid (HO.out.kept hg1 (fun b e => by injection e with e; have := HSZ0.out; omega))
      have HB1 := Lib.hid (hg1.below HB.out (Nat.le_refl _) HB.out.size)
      have HZ1 : Hid (w0.heap.size ≤ w1.heap.size) := Lib.hid (by rw [hs1]; exact HZ.out)
      clear hkey hlx hR hat hrg1 hlt hg1 hs1 hhas hs0 hm0 hid0 hout ec
      have hc4 := C4.new (w1.alloc (.cells #[.int .i64 c.id, .int .i64 c.fm, .int .i64 c.to, .int .i64 c.nd] 32)) c 32
      rw [show (w1.alloc (.cells #[.int .i64 c.id, .int .i64 c.fm, .int .i64 c.to, .int .i64 c.nd] 32)).heap.size = w1.heap.size + 1 from by simp] at hc4
      have HC4 := Lib.hid hc4
      have HO2 := Lib.hid (HO1.out.below (blw (al w1 (.cells #[.int .i64 c.id, .int .i64 c.fm, .int .i64 c.to, .int .i64 c.nd] 32)) (al (w1.alloc (.cells #[.int .i64 c.id, .int .i64 c.fm, .int .i64 c.to, .int .i64 c.nd] 32)) (.cells #[.int .i64 c.id, .int .i64 c.fm, .int .i64 c.to, .int .i64 c.nd] 32))))
      have HB2 := Lib.hid (blw HB1.out (blw (al w1 (.cells #[.int .i64 c.id, .int .i64 c.fm, .int .i64 c.to, .int .i64 c.nd] 32)) (al (w1.alloc (.cells #[.int .i64 c.id, .int .i64 c.fm, .int .i64 c.to, .int .i64 c.nd] 32)) (.cells #[.int .i64 c.id, .int .i64 c.fm, .int .i64 c.to, .int .i64 c.nd] 32))))
      have HG2 : Hid (w1.grownBy ((w1.alloc (.cells #[.int .i64 c.id, .int .i64 c.fm, .int .i64 c.to, .int .i64 c.nd] 32)).alloc (.cells #[.int .i64 c.id, .int .i64 c.fm, .int .i64 c.to, .int .i64 c.nd] 32)) none) := Lib.hid (gtr (World.grownBy_alloc w1 (.cells #[.int .i64 c.id, .int .i64 c.fm, .int .i64 c.to, .int .i64 c.nd] 32) none) (World.grownBy_alloc (w1.alloc (.cells #[.int .i64 c.id, .int .i64 c.fm, .int .i64 c.to, .int .i64 c.nd] 32)) (.cells #[.int .i64 c.id, .int .i64 c.fm, .int .i64 c.to, .int .i64 c.nd] 32) none))
      have HLL : Hid (l.length ≤ 1000000) := Lib.hid (by have := HLC.out; have := HNL.out; have := HL.out; omega)
      have HZ2 : Hid (w0.heap.size ≤ ((w1.alloc (.cells #[.int .i64 c.id, .int .i64 c.fm, .int .i64 c.to, .int .i64 c.nd] 32)).alloc (.cells #[.int .i64 c.id, .int .i64 c.fm, .int .i64 c.to, .int .i64 c.nd] 32)).heap.size) := Lib.hid (by have := HG2.out.size; have := HZ1.out; omega)
      clear hc4
      go_wp2_with (at_builtin; refine wpList_app4 rfl (.tmp 17) (.tmp 19) rfl w0.heap.size (.slice A1 l.length ca) l rfl HO2.out (w1.heap.size + 1) 1 c rfl HC4.out HLL.out HZ2.out ?_; intro A9 c9 w9 ho9 hg9 hb9)
      have hrg9 := (HRG1.out.kept HG2.out (by simp) (by simp)).kept hg9 (fun e => by have := (HO2.out.blk e.symm).1; have := HML.out; have := HSZ0.out; omega) (fun e => by have := (HO2.out.blk e.symm).1; have := HSZ0.out; omega)
      have HRG9 := Lib.hid hrg9
      have HO9 := Lib.hid ho9
      have HB9 := Lib.hid (HB2.out.trans (hb9.mono (by have := HSZ0.out; omega)))
      have HZ9 : Hid (w0.heap.size ≤ w9.heap.size) := Lib.hid (by have := hb9.size; have := HZ2.out; omega)
      refine ⟨⟨l ++ [c], A9, c9, _, cnt1, by simp, Lib.hid (by have := HLC.out; have := HLT.out; rw [List.length_append, List.length_singleton]; omega), HRG9, HO9, HB9, HZ9, HOUT1⟩, ?_⟩
      rw [HRG9.out.left_eq, HRG.out.left_eq]
      exact HLT.out
end Go.Proofs.Ytapojmniokdjfaa.Bk

