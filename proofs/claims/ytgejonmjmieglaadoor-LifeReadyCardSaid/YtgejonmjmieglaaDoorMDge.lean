/- Layer Dag over, for a seat that needs several layers: DagVia, DagRef, DagRef2, DagRReach. -/
import Derived.Test.YtgejonmjmieglaaDoorMDag
import Derived.BigQuiet
namespace Go.Proofs.YtgejonmjmieglaaDoor.Dag
set_option maxRecDepth 100000
/-! Over places below k alone; what the document's Reach holds while it goes. -/
set_option linter.unusedVariables false

def Via (a : Nat → Nat → Bool) : Nat → Nat → Nat → Prop
  | 0, v, u => a v u = true
  | k + 1, v, u => Via a k v u ∨ (Via a k v k ∧ Via a k k u)
theorem Via.up {a : Nat → Nat → Bool} {k v u : Nat} (h : Via a k v u) : Via a (k + 1) v u := Or.inl h
theorem Via.of {a : Nat → Nat → Bool} {v u : Nat} (h : a v u = true) : ∀ k, Via a k v u
  | 0 => h
  | k + 1 => (Via.of h k).up
theorem Via.plus {a : Nat → Nat → Bool} : ∀ {k v u : Nat}, Via a k v u → Plus a v u
  | 0, _, _, h => .one h
  | k + 1, _, _, h => by
    rcases h with h | ⟨h1, h2⟩
    · exact h.plus
    · exact h1.plus.trans h2.plus
theorem Via.comp {a : Nat → Nat → Bool} : ∀ {k v x u : Nat}, x < k → Via a k v x → Via a k x u → Via a k v u
  | 0, _, _, _, h, _, _ => by omega
  | k + 1, v, x, u, hx, h1, h2 => by
    by_cases e : x = k
    · subst e
      have g1 : Via a x v x := by rcases h1 with h | ⟨h, _⟩ <;> exact h
      have g2 : Via a x x u := by rcases h2 with h | ⟨_, h⟩ <;> exact h
      exact Or.inr ⟨g1, g2⟩
    · have hxk : x < k := by omega
      rcases h1 with h1 | ⟨h1, h1'⟩
      · rcases h2 with h2 | ⟨h2, h2'⟩
        · exact Or.inl (Via.comp hxk h1 h2)
        · exact Or.inr ⟨Via.comp hxk h1 h2, h2'⟩
      · rcases h2 with h2 | ⟨h2, h2'⟩
        · exact Or.inr ⟨h1, Via.comp hxk h1' h2⟩
        · exact Or.inr ⟨h1, h2'⟩
theorem Plus.via {a : Nat → Nat → Bool} {n v u : Nat} (ha : ∀ x y, a x y = true → y < n) (h : Plus a v u) : Via a n v u := by
  have h2 : ∀ u, Plus a v u → Via a n v u ∧ u < n := fun u h =>
    h.ind (M := fun u => Via a n v u ∧ u < n) (fun u h => ⟨.of h n, ha _ _ h⟩) fun x u _ ih h => ⟨Via.comp ih.2 ih.1 (.of h n), ha _ _ h⟩
  exact (h2 u h).1

/-- round k: all is there that goes over places below k, nothing that is not; of those ahead of (v, u) what goes over k, too -/
structure War (a : Nat → Nat → Bool) (n : Nat) (R : Nat → Nat → Bool) (k v u : Nat) : Prop where
  lo : ∀ x y, x < n → y < n → Via a k x y → R x y = true
  snd : ∀ x y, x < n → y < n → R x y = true → Plus a x y
  done : ∀ x y, x < n → y < n → (x < v ∨ (x = v ∧ y < u)) → Via a (k + 1) x y → R x y = true
def put (R : Nat → Nat → Bool) (v u : Nat) (x y : Nat) : Bool := R x y || (decide (x = v) && decide (y = u))
theorem War.set {a : Nat → Nat → Bool} {n : Nat} {R : Nat → Nat → Bool} {k v u : Nat} (h : War a n R k v u) (hk : k < n) (hv : v < n) (hu : u < n) (h1 : R v k = true) (h2 : R k u = true) : War a n (put R v u) k v (u + 1) := by
  have up : ∀ x y, R x y = true → put R v u x y = true := fun x y h => by unfold put; rw [h]; rfl
  have at_ : put R v u v u = true := by simp [put]
  refine ⟨fun x y hx hy hv => up _ _ (h.lo x y hx hy hv), fun x y hx hy hR => ?_, fun x y hx hy hxy hv' => ?_⟩
  · unfold put at hR
    rw [Bool.or_eq_true] at hR
    rcases hR with hR | hR
    · exact h.snd x y hx hy hR
    · simp at hR
      obtain ⟨rfl, rfl⟩ := hR
      exact (h.snd _ _ hv hk h1).trans (h.snd _ _ hk hu h2)
  · by_cases e : x = v ∧ y = u
    · obtain ⟨rfl, rfl⟩ := e; exact at_
    · refine up _ _ (h.done x y hx hy ?_ hv')
      rcases hxy with hxy | ⟨e1, hxy⟩
      · exact Or.inl hxy
      · refine Or.inr ⟨e1, ?_⟩
        rcases Nat.lt_or_ge y u with c | c
        · exact c
        · exact absurd ⟨e1, by omega⟩ e
theorem War.skip {a : Nat → Nat → Bool} {n : Nat} {R : Nat → Nat → Bool} {k v u : Nat} (h : War a n R k v u) (hk : k < n) (hv : v < n) (hu : u < n) (h1 : R v k = false ∨ R k u = false) : War a n R k v (u + 1) := by
  refine ⟨h.lo, h.snd, fun x y hx hy hxy hv' => ?_⟩
  by_cases e : x = v ∧ y = u
  · obtain ⟨rfl, rfl⟩ := e
    rcases hv' with hv' | ⟨g1, g2⟩
    · exact h.lo _ _ hv hu hv'
    · have e1 := h.lo _ _ hv hk g1
      have e2 := h.lo _ _ hk hu g2
      rcases h1 with h1 | h1
      · rw [e1] at h1; cases h1
      · rw [e2] at h1; cases h1
  · refine h.done x y hx hy ?_ hv'
    rcases hxy with hxy | ⟨e1, hxy⟩
    · exact Or.inl hxy
    · refine Or.inr ⟨e1, ?_⟩
      rcases Nat.lt_or_ge y u with c | c
      · exact c
      · exact absurd ⟨e1, by omega⟩ e
theorem War.row {a : Nat → Nat → Bool} {n : Nat} {R : Nat → Nat → Bool} {k v : Nat} (h : War a n R k v n) : War a n R k (v + 1) 0 :=
  ⟨h.lo, h.snd, fun x y hx hy hxy => h.done x y hx hy (by
    rcases hxy with hxy | ⟨_, hxy⟩
    · by_cases e : x = v
      · exact Or.inr ⟨e, hy⟩
      · exact Or.inl (by omega)
    · omega)⟩
theorem War.next {a : Nat → Nat → Bool} {n : Nat} {R : Nat → Nat → Bool} {k : Nat} (h : War a n R k n 0) : War a n R (k + 1) 0 0 :=
  ⟨fun x y hx hy => h.done x y hx hy (Or.inl hx), h.snd, fun x y hx hy hxy => by omega⟩
theorem War.start {a : Nat → Nat → Bool} {n : Nat} : War a n a 0 0 0 := ⟨fun x y _ _ h => h, fun x y _ _ h => .one h, fun x y _ _ hxy => by omega⟩
theorem War.end_ {a : Nat → Nat → Bool} {n : Nat} {R : Nat → Nat → Bool} (h : War a n R n 0 0) (ha : ∀ x y, a x y = true → y < n) {v u : Nat} (hv : v < n) (hu : u < n) : R v u = true ↔ Plus a v u :=
  ⟨h.snd v u hv hu, fun hp => h.lo v u hv hu (hp.via ha)⟩

/-! Above, Below; and of the document's: Has, Before, Behind, SameInts, SameLists; long. -/
open Go.RowKit
set_option linter.unusedVariables false

theorem fro_short {E : List (List Int)} (hn : E.length ≤ 30) : ∀ l ∈ fro E, l.length ≤ 1000 := by
  intro l hl
  obtain ⟨v, _, rfl⟩ := List.mem_map.1 hl
  rw [num_len]
  have := nodup_len (bef_nodup E v) fun u hu => (bef_mem.1 hu).1
  omega
/-- 'true', and nothing that lay has turned -/
def RetTrue (w : World) (e : Ending) (w' : World) : Prop := e = .returned (.bool true) ∧ Below w.heap.size w w'
theorem below_drew (w : World) (n : Nat) : Below w.heap.size w (w.drewN n) := (Quiet.drew w n).below

set_option maxHeartbeats 800000 in
theorem same_any (xs : List Int) (n m : Nat) (hn : xs.length = n) (hm : xs.length = m) (w : World) (A B : Option Addr) (c d : Nat) (h1 : Ints w A c xs) (h2 : Ints w B d xs) :
    Calls Tryd.prog 15 #[.slice A n c, .slice B m d] w (RetTrue w) := by
  subst hn hm
  have hlm : xs.length ≤ 9223372036854775807 := Nat.le_trans h1.len (by have := Sl.top h1; simpa [maxLen] using this)
  have H1 := Lib.hid h1; have H2 := Lib.hid h2
  clear h1 h2
  go_enter Tryd.func15, Tryd.ntmps15
  go_wp2
  go_loopw [5] (fun i wr => ∃ k : Nat, k ≤ xs.length ∧ i = .int .i64 k ∧ Hid (Below w.heap.size w wr)) (fun i _ => xs.length - (intOf i).toNat)
  case atStart => exact ⟨0, Nat.zero_le _, rfl, Lib.hid (Below.refl _ _)⟩
  case round =>
    obtain ⟨k, hk, rfl, HB⟩ := hrel
    by_cases hlt : k < xs.length
    · obtain ⟨b, off, x, rfl, hx, hc0⟩ := H1.out.at_ hlt
      have hc := (HB.out.cell (p := ⟨b, off + k, none⟩) (World.block_lt_of_cell? w _ hc0)).trans hc0
      obtain ⟨b', off', y, rfl, hy, hd0⟩ := H2.out.at_ hlt
      have hd := (HB.out.cell (p := ⟨b', off' + k, none⟩) (World.block_lt_of_cell? w _ hd0)).trans hd0
      have hxy : y = x := by rw [hx] at hy; injection hy with hy; exact hy.symm
      subst hxy
      clear hx hy hc0 hd0
      go_wp2
      go_quiet (fail)
      go_wp2
      rename_i nq
      go_roundw
      case rel => exact ⟨k + 1, by omega, by go_num, Lib.hid (blw HB.out (below_drew wr nq))⟩
      case measure => simp [intOf]; omega
    · obtain rfl : k = xs.length := by omega
      go_wp2
      go_ret
      exact ⟨rfl, HB.out⟩

theorem hasI_any (xs : List Int) (n : Nat) (hn : xs.length = n) (v : Int) (w : World) (A : Option Addr) (c : Nat) (h : Ints w A c xs) (r : Bool) (hr : decide (v ∈ xs) = r) :
    Calls Tryd.prog 36 #[.slice A n c, .int .i64 v] w fun e w' => e = .returned (.bool r) ∧ w = w' := by
  subst hn
  have hlm : xs.length ≤ 9223372036854775807 := Nat.le_trans h.len (by have := Sl.top h; simpa [maxLen] using this)
  have H := Lib.hid h
  have HR := Lib.hid hr
  clear h hr
  go_enter Tryd.func36, Tryd.ntmps36
  go_wp2
  go_loop [5] (fun i => ∃ k : Nat, k ≤ xs.length ∧ i = .int .i64 k ∧ Hid (v ∉ xs.take k)) (fun i => xs.length - (intOf i).toNat)
  case atStart => exact ⟨0, Nat.zero_le _, rfl, Lib.hid (by simp)⟩
  case round =>
    obtain ⟨k, hk, rfl, HN⟩ := hrel
    by_cases hlt : k < xs.length
    · obtain ⟨b, off, x, rfl, hx, hc⟩ := H.out.at_ hlt
      have HX := Lib.hid hx
      clear hx
      by_cases e : x = v
      · subst e
        have HF : Hid (r = true) := Lib.hid (by rw [← HR.out]; simp [List.mem_of_getElem? HX.out])
        go_wp2
        go_ret
        rw [HF.out]
        exact ⟨rfl, rfl⟩
      · have e1 : (x == v) = false := by rw [beq_eq_false_iff_ne]; exact e
        have HE := Lib.hid e
        clear e
        go_wp2
        go_round
        case rel =>
          refine ⟨k + 1, by omega, by go_num, Lib.hid ?_⟩
          rw [take_succ_some HX.out]
          intro h
          rcases List.mem_append.1 h with h | h
          · exact HN.out h
          · simp at h; exact HE.out h.symm
        case measure => simp [intOf]; omega
    · obtain rfl : k = xs.length := by omega
      have HF : Hid (r = false) := Lib.hid (by rw [← HR.out]; have := HN.out; rw [List.take_length] at this; simp [this])
      go_wp2
      go_ret
      rw [HF.out]
      exact ⟨rfl, rfl⟩

/-! Of the document's: SameLists, Before, Behind; and long. -/
open Go.RowKit
set_option linter.unusedVariables false

/-- a list of numbers in order is grown by what comes -/
theorem filter_succ (p : Nat → Bool) (k : Nat) : num ((List.range (k + 1)).filter p) = num ((List.range k).filter p) ++ if p k then [(k : Int)] else [] := by
  rw [List.range_succ, List.filter_append, num_app]
  congr 1
  cases h : p k <;> simp [h, num]
theorem filter_len (p : Nat → Bool) (k : Nat) : (num ((List.range k).filter p)).length ≤ k := by
  rw [num_len]
  have := List.length_filter_le p (List.range k)
  simpa using this

/-! Of the document's: Reach. -/
open Go.RowKit
set_option linter.unusedVariables false

def rowB (n : Nat) (f : Nat → Bool) : List Value := (List.range n).map fun u => Value.bool (f u)
def rowsB (n m : Nat) (R : Nat → Nat → Bool) : List (List Value) := (List.range m).map fun v => rowB n (R v)
theorem rowB_get {n u : Nat} (f : Nat → Bool) (h : u < n) : (rowB n f)[u]? = some (.bool (f u)) := range_map_get _ h
theorem rowB_len (n : Nat) (f : Nat → Bool) : (rowB n f).length = n := by simp [rowB]
theorem rowsB_get {n m v : Nat} (R : Nat → Nat → Bool) (h : v < m) : (rowsB n m R)[v]? = some (rowB n (R v)) := range_map_get _ h
theorem rowB_set {n u : Nat} {f g : Nat → Bool} (hu : u < n) (h : ∀ i, i < n → i ≠ u → g i = f i) : (rowB n f).set u (.bool (g u)) = rowB n g := range_map_set hu rfl fun i hi hne => by rw [h i hi hne]
theorem rowsB_set {n m v : Nat} {R S : Nat → Nat → Bool} (hv : v < m) (h : ∀ i, i < m → i ≠ v → S i = R i) : (rowsB n m R).set v (rowB n (S v)) = rowsB n m S := range_map_set hv rfl fun i hi hne => by rw [h i hi hne]
theorem rowsB_put {n v u : Nat} {R : Nat → Nat → Bool} (hv : v < n) (hu : u < n) : (rowsB n n R).set v ((rowB n (R v)).set u (.bool true)) = rowsB n n (put R v u) := by
  have e1 : (rowB n (R v)).set u (.bool true) = rowB n (put R v u v) := by
    have : put R v u v u = true := by simp [put]
    rw [← this]
    exact rowB_set hu fun i _ hi => by simp [put, hi]
  rw [e1]
  refine rowsB_set hv fun i _ hi => ?_
  funext j
  simp [put, hi]

def RetB (w : World) (E : List (List Int)) (e : Ending) (w' : World) : Prop :=
  ∃ (R : Nat → Nat → Bool) (A : Option Addr) (c : Nat) (vs : List Value), e = .returned (.slice A E.length c) ∧ Tbl w' w.heap.size 62 4 (.slice A E.length c) vs (rowsB E.length E.length R) ∧
    (∀ v u, v < E.length → u < E.length → (R v u = true ↔ Plus (arc E) v u)) ∧ Below w.heap.size w w'

set_option maxRecDepth 100000 in
set_option maxHeartbeats 4000000 in
theorem rreach_any (E : List (List Int)) (w : World) (A : Option Addr) (c : Nat) (h : IRows w A c E) (hn : E.length ≤ 300) (hE : Valid E) :
    Calls Tryd.prog 28 #[.slice A E.length c] w (RetB w E) := by
  have H := Lib.hid h; have HE := Lib.hid hE
  clear h hE
  have hmk := fun W : World => run_mk W 62 4 _ 1 Tryd.underlying62 info_bool rfl (by decide) E.length (by omega) _ _ rfl rfl
  go_enter Tryd.func28, Tryd.ntmps28
  go_wp2_with fail
  go_loopw [4, 5] (fun r i wr => ∃ (v : Nat) (vs : List Value) (Ao : Option Addr) (co : Nat), v ≤ E.length ∧ i = .int .i64 v ∧ r = .slice Ao v co ∧ Hid (Tbl wr w.heap.size 62 4 (.slice Ao v co) vs (rowsB E.length v (arc E))) ∧ Hid (Below w.heap.size w wr)) (fun _ i _ => E.length - (intOf i).toNat)
  case atStart => exact ⟨0, [], none, 0, Nat.zero_le _, rfl, rfl, Lib.hid (by have := Tbl.nil w w.heap.size 62 4; simpa [rowsB] using this), Lib.hid (Below.refl _ _)⟩
  case round =>
    obtain ⟨v, vs, Ao, co, hv, rfl, rfl, HT, HB⟩ := hrel
    by_cases hvl : v < E.length
    · obtain ⟨b, off, A', c', rfl, hc0, hi⟩ := H.out.cells v _ (row_get hvl)
      have HC := Lib.hid hc0; have HI := Lib.hid hi
      clear hc0 hi
      have hbm : Below wr.heap.size wr (wr.alloc (.cells (Array.replicate E.length (.bool false)) 4)) := (Below.refl _ _).alloc (Nat.le_refl _) _
      have hom := Own1.make wr wr.heap.size 4 (Nat.le_refl _) E.length (by omega) (.bool false) rfl
      have e0 : List.replicate E.length (Value.bool false) = rowB E.length (fun u => decide (u < 0) && arc E v u) := by
        unfold rowB
        apply List.ext_getElem?
        intro i
        rcases Nat.lt_or_ge i E.length with hi | hi
        · rw [range_map_get _ hi, List.getElem?_replicate, if_pos hi]; rfl
        · rw [List.getElem?_eq_none (by simpa using hi), List.getElem?_eq_none (by simpa using hi)]
      rw [e0] at hom
      have HBM := Lib.hid hbm; have HOM := Lib.hid hom
      have HMK := Lib.hid hmk
      clear hbm hom e0
      go_wp2_with fail
      clear hmk
      generalize wr.alloc (.cells (Array.replicate E.length (.bool false)) 4) = WM at HBM HOM ⊢
      generalize eg : wr.heap.size = gr at HBM HOM ⊢
      have HGR := Lib.hid eg
      clear eg
      obtain ⟨W1, hW1⟩ : ∃ W1, W1 = wr := ⟨_, rfl⟩
      rw [← hW1] at HT HB HBM HGR
      clear hW1
      go_loopw [7] (fun i wr => ∃ u : Nat, u ≤ E.length ∧ i = .int .i64 u ∧ Hid (Own1 wr gr 4 (.slice (some ⟨gr, 0, none⟩) E.length E.length) (rowB E.length fun x => decide (x < u) && arc E v x)) ∧ Hid (Below gr W1 wr)) (fun i _ => E.length - (intOf i).toNat)
      case atStart => exact ⟨0, Nat.zero_le _, rfl, HOM, HBM⟩
      case round =>
        clear HOM HBM
        obtain ⟨u, hu, rfl, HO, HBW⟩ := hrel
        have HBW0 : Hid (Below w.heap.size w wr) := Lib.hid (blw HB.out (by rw [HGR.out]; exact HBW.out))
        have hsz := HBW0.out.size
        have hgw : w.heap.size ≤ gr := by rw [← HGR.out]; exact HB.out.size
        by_cases hul : u < E.length
        · have hc := (HBW0.out.cell (p := ⟨b, off + v, none⟩) (World.block_lt_of_cell? w _ HC.out)).trans HC.out
          obtain ⟨gx, egx, _, _, ccx, fcx, _, hset⟩ := Own1.at_ HO.out (rowB_get _ hul)
          injection egx with egx
          injection egx with egx
          subst egx
          have HSET := Lib.hid hset
          obtain ⟨r, hr⟩ : ∃ r, arc E v u = r := ⟨_, rfl⟩
          have HR := Lib.hid hr
          have HRD : Hid (decide ((u : Int) ∈ row E v) = r) := Lib.hid hr
          clear hset hr
          go_wp2_with fail
          refine (hasI_any (row E v) _ rfl (u : Int) _ _ _ (HI.out.below HBW0.out) r HRD.out).mono ?_
          rintro e w1 ⟨rfl, rfl⟩
          go_wp2_with fail
          go_roundw
          case rel =>
            refine ⟨u + 1, by omega, by go_num, Lib.hid ?_, Lib.hid (HBW.out.setCell (p := ⟨gr, u, none⟩) (Nat.le_refl _) _)⟩
            have h9 := HSET.out (.bool r)
            have e9 : (rowB E.length fun x => decide (x < u) && arc E v x).set u (.bool r) = rowB E.length fun x => decide (x < u + 1) && arc E v x := by
              have : r = (decide (u < u + 1) && arc E v u) := by rw [HR.out]; simp
              rw [this]
              refine rowB_set (g := fun x => decide (x < u + 1) && arc E v x) hul fun i _ hne => ?_
              have : decide (i < u + 1) = decide (i < u) := by rw [decide_eq_decide]; omega
              rw [this]
            rw [e9] at h9
            exact h9
          case measure => simp [intOf]; omega
        · obtain rfl : u = E.length := by omega
          have HO' : Hid (Own1 wr gr 4 (.slice (some ⟨gr, 0, none⟩) E.length E.length) (rowB E.length (arc E v))) := Lib.hid (by
            have := HO.out
            rw [show (rowB E.length fun x => decide (x < E.length) && arc E v x) = rowB E.length (arc E v) from by
              apply List.map_congr_left
              intro x hx
              have hx' : x < E.length := by simpa using hx
              simp [hx']] at this
            exact this)
          have hvsl : vs.length = v := by rw [HT.out.len]; simp [rowsB]
          have hown := HT.out.out
          have HOW : Hid (Own1 (wr.alloc (.cells #[.slice (some ⟨gr, 0, none⟩) E.length E.length] 62)) w.heap.size 62 (.slice Ao v co) vs) := Lib.hid ((hown.below (by rw [HGR.out]; exact HBW.out)).below ((Below.refl _ _).alloc (Nat.le_refl _) _))
          clear hown HO
          go_wp2_with (at_builtin; refine wpList_appg rfl _ _ 58 62 (.slice none 0 0) 24 Tryd.underlying58 info_bs rfl (by decide) rfl w.heap.size (.slice Ao v co) vs rfl HOW.out (some ⟨wr.heap.size, 0, none⟩) 1 1 [.slice (some ⟨gr, 0, none⟩) E.length E.length] rfl rfl (Sl.one rfl) (by simp [Value.oneCell']) (by simp; omega) (by simp; omega) ?_; intro l A9 c9 w9 el ho9 hg9 _ hbl9; have HO9 := Lib.hid ho9; have HG9 := Lib.hid hg9; have HB9 := Lib.hid hbl9; have EL := Lib.hid el; have hll : l.length = v + 1 := (by rw [el]; simp [hvsl]); rw [hll]; clear ho9 hg9 hbl9 el)
          go_roundw
          case rel =>
            refine ⟨v + 1, l, A9, c9, by omega, by go_num, rfl, Lib.hid ?_, Lib.hid ((HBW0.out.alloc HBW0.out.size _).trans HB9.out)⟩
            have hvlt : ∀ b0, (Value.slice Ao v co).ownBlock = some b0 → b0 < gr := fun b0 e => by rw [← HGR.out]; exact (HT.out.out.lt e).2
            have := HT.out.push (by decide) (u := .slice (some ⟨gr, 0, none⟩) E.length E.length) (us := rowB E.length (arc E v)) (w' := w9) (v' := .slice A9 (v + 1) c9)
              (fun b0 hb hne => ((HG9.out.block b0 (by rw [HGR.out] at hb; have := HBW.out.size; simp; have := HGR.out; omega) (fun e => hne e.symm)).trans (Below.heap_alloc wr _ b0 (by rw [HGR.out] at hb; have := HBW.out.size; have := HGR.out; omega))).trans (HBW.out.block b0 (by rw [← HGR.out]; exact hb)))
              (by rw [← EL.out, ← hll]; exact HO9.out)
              ((HO'.out.rebase hgw).keep fun b0 e => by
                have hb0 : gr = b0 := by simpa [Value.ownBlock] using e
                subst hb0
                have hlt := (HO'.out.lt e).2
                refine (HG9.out.block _ (by simp; omega) fun e2 => ?_).trans (Below.heap_alloc wr _ _ hlt)
                have := hvlt _ e2.symm
                omega)
              (fun b0 e => by
                have hb0 : gr = b0 := by simpa [Value.ownBlock] using e
                rw [HGR.out]; omega)
            rw [← EL.out] at this
            have e2 : rowsB E.length v (arc E) ++ [rowB E.length (arc E v)] = rowsB E.length (v + 1) (arc E) := by
              unfold rowsB
              rw [List.range_succ, List.map_append]; rfl
            rw [e2] at this
            exact this
          case measure => simp [intOf]; omega
    · obtain rfl : v = E.length := by omega
      clear hmk hv hvl
      go_wp2_with fail
      go_loopw [8] (fun i wr => ∃ (k : Nat) (R : Nat → Nat → Bool), k ≤ E.length ∧ i = .int .i64 k ∧ Hid (Tbl wr w.heap.size 62 4 (.slice Ao E.length co) vs (rowsB E.length E.length R)) ∧ Hid (Below w.heap.size w wr) ∧ Hid (War (arc E) E.length R k 0 0)) (fun i _ => E.length - (intOf i).toNat)
      case atStart => exact ⟨0, arc E, Nat.zero_le _, rfl, HT, HB, Lib.hid War.start⟩
      case round =>
        clear HT HB
        obtain ⟨k, R, hk, rfl, HT, HB, HW⟩ := hrel
        by_cases hkl : k < E.length
        · go_wp2_with fail
          go_loopw [9] (fun i wr => ∃ (v : Nat) (R : Nat → Nat → Bool), v ≤ E.length ∧ i = .int .i64 v ∧ Hid (Tbl wr w.heap.size 62 4 (.slice Ao E.length co) vs (rowsB E.length E.length R)) ∧ Hid (Below w.heap.size w wr) ∧ Hid (War (arc E) E.length R k v 0)) (fun i _ => E.length - (intOf i).toNat)
          case atStart => exact ⟨0, R, Nat.zero_le _, rfl, HT, HB, HW⟩
          case round =>
            clear HT HB HW
            obtain ⟨v, R, hv, rfl, HT, HB, HW⟩ := hrel
            by_cases hvl : v < E.length
            · go_wp2_with fail
              go_loopw [10] (fun i wr => ∃ (u : Nat) (R : Nat → Nat → Bool), u ≤ E.length ∧ i = .int .i64 u ∧ Hid (Tbl wr w.heap.size 62 4 (.slice Ao E.length co) vs (rowsB E.length E.length R)) ∧ Hid (Below w.heap.size w wr) ∧ Hid (War (arc E) E.length R k v u)) (fun i _ => E.length - (intOf i).toNat)
              case atStart => exact ⟨0, R, Nat.zero_le _, rfl, HT, HB, HW⟩
              case round =>
                clear HT HB HW
                obtain ⟨u, R, hu, rfl, HT, HB, HW⟩ := hrel
                by_cases hul : u < E.length
                · obtain ⟨g, Av, cv, eA, _, _, hvv, cvv, _, hov⟩ := HT.out.row (rowsB_get R hvl)
                  subst eA
                  rw [rowB_len] at cvv hvv hov
                  obtain ⟨gv, eAv, _, _, cvk, _⟩ := Own1.at_ hov (rowB_get _ hkl)
                  subst eAv
                  obtain ⟨g2, Ak, ck, eA2, _, _, hkk, ckk, _, hok⟩ := HT.out.row (rowsB_get R hkl)
                  injection eA2 with eA2
                  injection eA2 with eA2
                  subst eA2
                  rw [rowB_len] at ckk hkk hok
                  obtain ⟨gk, eAk, _, _, cku, _⟩ := Own1.at_ hok (rowB_get _ hul)
                  subst eAk
                  obtain ⟨gw, egw, hgb, hgl, cvu, fvu, hset⟩ := HT.out.setIn (by decide) (rowsB_get R hvl) (by rw [rowB_len]; exact hvv) (rowB_get _ hul) (.bool true)
                  injection egw with egw
                  injection egw with egw
                  subst egw
                  rw [rowsB_put hvl hul] at hset
                  have HSET := Lib.hid hset
                  obtain ⟨r1, hr1⟩ : ∃ r1, R v k = r1 := ⟨_, rfl⟩
                  obtain ⟨r2, hr2⟩ : ∃ r2, R k u = r2 := ⟨_, rfl⟩
                  rw [hr1] at cvk
                  rw [hr2] at cku
                  have HR1 := Lib.hid hr1; have HR2 := Lib.hid hr2
                  clear hset hr1 hr2 hvv hov hkk hok
                  cases r1 with
                  | false =>
                    go_wp2_with fail
                    go_roundw
                    case rel => exact ⟨u + 1, R, by omega, by go_num, HT, HB, Lib.hid (HW.out.skip hkl hvl hul (Or.inl HR1.out))⟩
                    case measure => simp [intOf]; omega
                  | true =>
                    cases r2 with
                    | false =>
                      go_wp2_with fail
                      go_roundw
                      case rel => exact ⟨u + 1, R, by omega, by go_num, HT, HB, Lib.hid (HW.out.skip hkl hvl hul (Or.inr HR2.out))⟩
                      case measure => simp [intOf]; omega
                    | true =>
                      go_wp2_with fail
                      go_roundw
                      case rel => exact ⟨u + 1, put R v u, by omega, by go_num, HSET, Lib.hid (HB.out.setCell hgb _), Lib.hid (HW.out.set hkl hvl hul HR1.out HR2.out)⟩
                      case measure => simp [intOf]; omega
                · obtain rfl : u = E.length := by omega
                  go_wp2_with fail
                  go_roundw
                  case rel => exact ⟨v + 1, R, by omega, by go_num, HT, HB, Lib.hid HW.out.row⟩
                  case measure => simp [intOf]; omega
            · obtain rfl : v = E.length := by omega
              go_wp2_with fail
              go_roundw
              case rel => exact ⟨k + 1, R, by omega, by go_num, HT, HB, Lib.hid HW.out.next⟩
              case measure => simp [intOf]; omega
        · obtain rfl : k = E.length := by omega
          go_wp2
          go_ret
          exact ⟨R, Ao, co, vs, rfl, HT.out, fun v u hv hu => HW.out.end_ (fun x y h => HE.out.arc h) hv hu, HB.out⟩

end Go.Proofs.YtgejonmjmieglaaDoor.Dag

