/- Ways of exactly so many arcs, and the search for the shortest, in plain words. -/
import Derived.Test.YtaokbjacfdipmaaDoorDagStP
namespace Go.Proofs.YtaokbjacfdipmaaDoor
set_option linter.unusedVariables false

/-- do exactly k arcs lead from w to u -/
def canB (E : List (List Int)) (w : Nat) : Nat → Nat → Bool
  | 0, u => decide (u = w)
  | k + 1, u => (List.range E.length).any fun x => canB E w k x && arc E x u
theorem can_zero {E : List (List Int)} {w u : Nat} : canB E w 0 u = true ↔ u = w := by simp [canB]
theorem can_succ {E : List (List Int)} {w k u : Nat} : canB E w (k + 1) u = true ↔ ∃ x, canB E w k x = true ∧ arc E x u = true := by
  show ((List.range E.length).any fun x => canB E w k x && arc E x u) = true ↔ _
  rw [List.any_eq_true]
  constructor
  · rintro ⟨x, _, h⟩
    rw [Bool.and_eq_true] at h
    exact ⟨x, h⟩
  · rintro ⟨x, h1, h2⟩
    exact ⟨x, by simpa using arc_lt h2, by rw [h1, h2]; rfl⟩
theorem can_lt {E : List (List Int)} (hE : Valid E) {w : Nat} (hw : w < E.length) : ∀ {k u : Nat}, canB E w k u = true → u < E.length
  | 0, u, h => by rw [can_zero] at h; omega
  | k + 1, u, h => by
    obtain ⟨x, _, h2⟩ := can_succ.1 h
    exact hE.arc h2
theorem can_pos {E : List (List Int)} (hf : (order E).length = E.length) (hE : Valid E) {w : Nat} : ∀ {k u : Nat}, canB E w k u = true → pos (order E) u + k ≤ pos (order E) w
  | 0, u, h => by rw [can_zero] at h; subst h; omega
  | k + 1, u, h => by
    obtain ⟨x, h1, h2⟩ := can_succ.1 h
    have := can_pos hf hE h1
    have := pos_arc hf hE h2
    omega
theorem pos_lt {E : List (List Int)} (hf : (order E).length = E.length) {u : Nat} (hu : u < E.length) : pos (order E) u < E.length := by
  have := (List.getElem?_eq_some_iff.1 (pos_has (order_ord E).nodup (ord_all hf hu))).1
  omega
theorem can_short {E : List (List Int)} (hf : (order E).length = E.length) (hE : Valid E) {w k u : Nat} (hw : w < E.length) (h : canB E w k u = true) : k < E.length := by
  have := can_pos hf hE h
  have := pos_lt hf hw
  omega
theorem can_plus {E : List (List Int)} {w : Nat} : ∀ {k u : Nat}, canB E w (k + 1) u = true → Plus (arc E) w u
  | 0, u, h => by
    obtain ⟨x, h1, h2⟩ := can_succ.1 h
    rw [can_zero] at h1
    subst h1
    exact .one h2
  | k + 1, u, h => by
    obtain ⟨x, h1, h2⟩ := can_succ.1 h
    exact .step (can_plus h1) h2
theorem plus_can {E : List (List Int)} {w u : Nat} (h : Plus (arc E) w u) : ∃ k, canB E w (k + 1) u = true :=
  h.ind (M := fun u => ∃ k, canB E w (k + 1) u = true) (fun u ha => ⟨0, can_succ.2 ⟨w, can_zero.2 rfl, ha⟩⟩) fun x u _ ⟨k, hk⟩ ha => ⟨k + 1, can_succ.2 ⟨x, hk, ha⟩⟩

structure Bfs (E : List (List Int)) (w : Nat) (ls : List Nat) (d : Nat → Nat) (i j : Nat) : Prop where
  nodup : ls.Nodup
  lt : ∀ u ∈ ls, u < E.length
  way : ∀ u ∈ ls, canB E w (d u) u = true
  mono : ∀ (a b x y : Nat), a ≤ b → ls[a]? = some x → ls[b]? = some y → d x ≤ d y
  near : ∀ x, ls[i]? = some x → ∀ y ∈ ls, d y ≤ d x + 1
  done : ∀ x ∈ ls.take i, ∀ y, arc E x y = true → y ∈ ls ∧ d y ≤ d x + 1
  cur : ∀ x, ls[i]? = some x → ∀ y ∈ (befL E x).take j, y ∈ ls
  start : w ∈ ls
theorem Bfs.zero {E : List (List Int)} {w : Nat} (hw : w < E.length) : Bfs E w [w] (fun _ => 0) 0 0 := by
  refine ⟨by simp, by simpa using hw, fun u hu => ?_, fun a b x y _ _ _ => Nat.le_refl _, fun x _ y _ => by omega, by simp, by simp, by simp⟩
  rw [can_zero]; simpa using hu
theorem Bfs.old {E : List (List Int)} {w : Nat} {ls : List Nat} {d : Nat → Nat} {i j x u : Nat} (h : Bfs E w ls d i j) (hx : ls[i]? = some x) (hu : (befL E x)[j]? = some u) (hin : u ∈ ls) : Bfs E w ls d i (j + 1) := by
  refine ⟨h.nodup, h.lt, h.way, h.mono, h.near, h.done, fun y hy z hz => ?_, h.start⟩
  rw [hx] at hy
  injection hy with hy
  subst hy
  rw [List.take_add_one, hu] at hz
  rcases List.mem_append.1 hz with hz | hz
  · exact h.cur x hx z hz
  · simp at hz; subst hz; exact hin
def upd (d : Nat → Nat) (u m y : Nat) : Nat := if y = u then m else d y
theorem upd_eq (d : Nat → Nat) (u m : Nat) : upd d u m u = m := if_pos rfl
theorem upd_ne {d : Nat → Nat} {u m y : Nat} (h : y ≠ u) : upd d u m y = d y := if_neg h
theorem Bfs.new {E : List (List Int)} {w : Nat} {ls : List Nat} {d : Nat → Nat} {i j x u : Nat} (h : Bfs E w ls d i j) (hE : Valid E) (hx : ls[i]? = some x) (hu : (befL E x)[j]? = some u) (hout : u ∉ ls) : Bfs E w (ls ++ [u]) (upd d u (d x + 1)) i (j + 1) := by
  have hxm : x ∈ ls := List.mem_of_getElem? hx
  have hil := (List.getElem?_eq_some_iff.1 hx).1
  have hum := bef_mem.1 (List.mem_of_getElem? hu)
  have hne : ∀ y ∈ ls, y ≠ u := fun y hy e => hout (by rw [← e]; exact hy)
  have hd : ∀ y ∈ ls, upd d u (d x + 1) y = d y := fun y hy => upd_ne (hne y hy)
  have hget : ∀ (a y : Nat), (ls ++ [u])[a]? = some y → (ls[a]? = some y) ∨ (a = ls.length ∧ y = u) := by
    intro a y hy
    rcases Nat.lt_or_ge a ls.length with ha | ha
    · rw [List.getElem?_append_left ha] at hy; exact Or.inl hy
    · rw [List.getElem?_append_right ha] at hy
      have h1 := (List.getElem?_eq_some_iff.1 hy).1
      have h2 : a = ls.length := by simp at h1; omega
      subst h2
      simp at hy
      exact Or.inr ⟨rfl, hy.symm⟩
  refine ⟨?_, ?_, ?_, ?_, ?_, ?_, ?_, List.mem_append_left _ h.start⟩
  · rw [List.nodup_append]
    exact ⟨h.nodup, by simp, fun a ha b hb e => by simp at hb; subst hb e; exact hout ha⟩
  · intro y hy
    rcases List.mem_append.1 hy with hy | hy
    · exact h.lt y hy
    · simp at hy; subst hy; exact hum.1
  · intro y hy
    rcases List.mem_append.1 hy with hy | hy
    · rw [hd y hy]; exact h.way y hy
    · simp at hy; subst hy
      rw [upd_eq]
      exact can_succ.2 ⟨x, h.way x hxm, hum.2⟩
  · intro a b y z hab hy0 hz0
    rcases hget a y hy0 with hy | ⟨ha, e1⟩
    · rw [hd y (List.mem_of_getElem? hy)]
      rcases hget b z hz0 with hz | ⟨hb, e2⟩
      · rw [hd z (List.mem_of_getElem? hz)]; exact h.mono a b y z hab hy hz
      · rw [e2, upd_eq]; exact h.near x hx y (List.mem_of_getElem? hy)
    · rcases hget b z hz0 with hz | ⟨hb, e2⟩
      · have := (List.getElem?_eq_some_iff.1 hz).1; omega
      · rw [e1, e2]; exact Nat.le_refl _
  · intro y hy z hz
    have hy' : y = x := by
      rcases hget i y hy with hy | ⟨ha, _⟩
      · rw [hx] at hy; injection hy with hy; exact hy.symm
      · omega
    subst hy'
    rw [hd y hxm]
    rcases List.mem_append.1 hz with hz | hz
    · rw [hd z hz]; exact h.near y hx z hz
    · simp at hz; subst hz; rw [upd_eq]; exact Nat.le_refl _
  · intro y hy z hz
    rw [List.take_append_of_le_length (by omega)] at hy
    obtain ⟨h1, h2⟩ := h.done y hy z hz
    rw [hd y (List.mem_of_mem_take hy), hd z h1]
    exact ⟨List.mem_append_left _ h1, h2⟩
  · intro y hy z hz
    have hy' : y = x := by
      rcases hget i y hy with hy | ⟨ha, _⟩
      · rw [hx] at hy; injection hy with hy; exact hy.symm
      · omega
    subst hy'
    rw [List.take_add_one, hu] at hz
    rcases List.mem_append.1 hz with hz | hz
    · exact List.mem_append_left _ (h.cur y hx z hz)
    · simp at hz; subst hz; simp
theorem Bfs.next {E : List (List Int)} {w : Nat} {ls : List Nat} {d : Nat → Nat} {i x : Nat} (h : Bfs E w ls d i (befL E x).length) (hE : Valid E) (hx : ls[i]? = some x) : Bfs E w ls d (i + 1) 0 := by
  have hxm : x ∈ ls := List.mem_of_getElem? hx
  refine ⟨h.nodup, h.lt, h.way, h.mono, fun y hy z hz => ?_, fun y hy z hz => ?_, by simp, h.start⟩
  · have h1 := h.near x hx z hz
    have h2 := h.mono i (i + 1) x y (by omega) hx hy
    omega
  · rw [List.take_add_one, hx] at hy
    rcases List.mem_append.1 hy with hy | hy
    · exact h.done y hy z hz
    · simp at hy; subst hy
      have hz' : z ∈ ls := h.cur y hx z (by rw [List.take_length]; exact bef_mem.2 ⟨hE.arc hz, hz⟩)
      exact ⟨hz', h.near y hx z hz'⟩
theorem Bfs.end_ {E : List (List Int)} {w : Nat} {ls : List Nat} {d : Nat → Nat} (h : Bfs E w ls d ls.length 0) (h0 : d w = 0) : ∀ (k u : Nat), canB E w k u = true → u ∈ ls ∧ d u ≤ k
  | 0, u, hc => by
    rw [can_zero] at hc; subst hc
    exact ⟨h.start, by omega⟩
  | k + 1, u, hc => by
    obtain ⟨x, h1, h2⟩ := can_succ.1 hc
    obtain ⟨h3, h4⟩ := h.end_ h0 k x h1
    obtain ⟨h5, h6⟩ := h.done x (by rw [List.take_length]; exact h3) u h2
    exact ⟨h5, by omega⟩
theorem Bfs.len {E : List (List Int)} {w : Nat} {ls : List Nat} {d : Nat → Nat} {i j : Nat} (h : Bfs E w ls d i j) : ls.length ≤ E.length := nodup_len h.nodup h.lt

/-- the least number of arcs, or -1 -/
def Dst (E : List (List Int)) (w u : Nat) (z : Int) : Prop :=
  (z = -1 ∧ ∀ k, canB E w k u = false) ∨ ∃ k : Nat, z = (k : Int) ∧ canB E w k u = true ∧ ∀ m, canB E w m u = true → k ≤ m
def farL (n : Nat) (ls : List Nat) (d : Nat → Nat) : List Int := (List.range n).map fun u => if u ∈ ls then (d u : Int) else -1
theorem far_len (n : Nat) (ls : List Nat) (d : Nat → Nat) : (farL n ls d).length = n := by simp [farL]
theorem far_zero {n w : Nat} (hw : w < n) : (List.replicate n (-1 : Int)).set w 0 = farL n [w] (fun _ => 0) := by
  have e : List.replicate n (-1 : Int) = (List.range n).map fun _ => -1 := by
    apply List.ext_getElem?
    intro i
    rcases Nat.lt_or_ge i n with hi | hi
    · rw [range_map_get _ hi, List.getElem?_replicate, if_pos hi]
    · rw [List.getElem?_eq_none (by simpa using hi), List.getElem?_eq_none (by simpa using hi)]
  rw [e]
  exact range_map_set hw (by simp) fun i hi hne => by simp [hne]
theorem far_in {n : Nat} {ls : List Nat} {d : Nat → Nat} {u : Nat} (hu : u < n) (h : u ∈ ls) : (farL n ls d)[u]? = some (d u : Int) := by
  unfold farL; rw [range_map_get _ hu, if_pos h]
theorem far_out {n : Nat} {ls : List Nat} {d : Nat → Nat} {u : Nat} (hu : u < n) (h : u ∉ ls) : (farL n ls d)[u]? = some (-1) := by
  unfold farL; rw [range_map_get _ hu, if_neg h]
theorem far_new {n : Nat} {ls : List Nat} {d : Nat → Nat} {u m : Nat} (hu : u < n) : (farL n ls d).set u ((m : Int) + 1) = farL n (ls ++ [u]) (upd d u (m + 1)) := by
  refine range_map_set hu ?_ fun i hi hne => ?_
  · rw [if_pos (by simp), upd_eq]; omega
  · rw [upd_ne hne]; simp [hne]
theorem Bfs.dst {E : List (List Int)} {w : Nat} {ls : List Nat} {d : Nat → Nat} (h : Bfs E w ls d ls.length 0) (h0 : d w = 0) (u : Nat) (hu : u < E.length) : ∃ z, (farL E.length ls d)[u]? = some z ∧ Dst E w u z := by
  rcases Classical.em (u ∈ ls) with a | a
  · exact ⟨_, far_in hu a, Or.inr ⟨d u, rfl, h.way u a, fun m hm => (h.end_ h0 m u hm).2⟩⟩
  · refine ⟨_, far_out hu a, Or.inl ⟨rfl, fun k => ?_⟩⟩
    rw [Bool.eq_false_iff]
    exact fun hc => a (h.end_ h0 k u hc).1

end Go.Proofs.YtaokbjacfdipmaaDoor
