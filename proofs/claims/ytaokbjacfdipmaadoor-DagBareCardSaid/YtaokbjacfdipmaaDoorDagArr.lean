/- The order: arrange. -/
import Derived.Test.YtaokbjacfdipmaaDoorDagRange
namespace Go.Proofs.YtaokbjacfdipmaaDoor
open Go.RowKit Go.Shelf
set_option linter.unusedVariables false
attribute [local go_sem] Oper.semAt_some

theorem blk_ne {w : World} {g b : Nat} {cs cs' : Array Value} {t t' : TypeId} {z z' : Nat × Nat} (h : w.heap[g]? = some (.cells cs t z)) (h' : w.heap[b]? = some (.cells cs' t' z')) (ht : t ≠ t') : g ≠ b := by
  intro e
  subst e
  rw [h] at h'
  injection h' with h'
  injection h' with _ h'
  exact ht h'
theorem SetAt.keep' {w w' : World} {base n wd : Nat} {v : Value} (h : SetAt w base n v wd) (hk : ∀ b x, v.ownBlock = some b → Word w b x → w'.heap[b]? = w.heap[b]?) : SetAt w' base n v wd := by
  obtain ⟨⟨g, e, hb, hw⟩, hl⟩ := h
  exact ⟨⟨g, e, hb, fun hn => (hw hn).keep (hk g _ (by rw [e]; rfl) (hw hn))⟩, hl⟩

/-- what arrange holds while it goes -/
structure Arr (n : Nat) (w0 : World) (b3 b5 bm b6 b7 N : Nat) (hv vp : Value) (W : World) (o : List Nat) (ms : List Int) (wd : Nat) : Prop where
  below : Below w0.heap.size w0 W
  lo : w0.heap.size ≤ b3 ∧ w0.heap.size ≤ b5 ∧ w0.heap.size ≤ bm ∧ w0.heap.size ≤ b6 ∧ w0.heap.size ≤ b7
  x3 : W.heap[b3]? = some (.cells #[hv] 22 (0, 0))
  x5 : ∃ vo, W.heap[b5]? = some (.cells #[vo] 30 (0, 0)) ∧ OwnI W N vo (num o)
  x6 : W.heap[b6]? = some (.cells #[.slice (some ⟨bm, 0, none⟩) n n] 30 (0, 0))
  x7 : W.heap[b7]? = some (.cells #[vp] 58 (0, 0))
  xm : OwnI W w0.heap.size (.slice (some ⟨bm, 0, none⟩) n n) ms
  xp : SetAt W w0.heap.size n vp wd
  ne : b5 ≠ b6 ∧ bm < N ∧ N ≤ W.heap.size

section
variable {n : Nat} {w0 : World} {b3 b5 bm b6 b7 N : Nat} {hv vp : Value} {W W' : World} {o : List Nat} {ms : List Int} {wd : Nat}
theorem Arr.len (h : Arr n w0 b3 b5 bm b6 b7 N hv vp W o ms wd) : ms.length = n := by
  have := own_len h.xm; rw [ints_len] at this
  have h2 := h.xm.ints'.1
  omega
/-- only blocks that are no cells have turned, and new ones come -/
theorem Arr.keep (h : Arr n w0 b3 b5 bm b6 b7 N hv vp W o ms wd) (hb : Below w0.heap.size w0 W') (hs : W.heap.size ≤ W'.heap.size) (hk : ∀ (b : Nat) (cs : Array Value) (t : TypeId), W.heap[b]? = some (.cells cs t (0, 0)) → W'.heap[b]? = W.heap[b]?) :
    Arr n w0 b3 b5 bm b6 b7 N hv vp W' o ms wd := by
  obtain ⟨vo, h5, ho⟩ := h.x5
  refine ⟨hb, h.lo, (hk _ _ _ h.x3).trans h.x3, ⟨vo, (hk _ _ _ h5).trans h5, ho.keep fun b e => ?_⟩, (hk _ _ _ h.x6).trans h.x6, (hk _ _ _ h.x7).trans h.x7, h.xm.keep fun b e => ?_, h.xp.keep' fun b x e hw => hk _ _ _ hw.blk, h.ne.1, h.ne.2.1, Nat.le_trans h.ne.2.2 hs⟩
  · obtain ⟨cs, hc⟩ := ho.typed e
    exact hk _ _ _ hc
  · obtain ⟨cs, hc⟩ := h.xm.typed e
    exact hk _ _ _ hc
theorem Arr.alloc (h : Arr n w0 b3 b5 bm b6 b7 N hv vp W o ms wd) (ob : Obj) : Arr n w0 b3 b5 bm b6 b7 N hv vp (W.alloc ob) o ms wd :=
  h.keep (h.below.alloc h.below.size ob) (by simp) fun b cs t hc => Below.heap_alloc W ob b (blk_lt hc)
theorem Arr.turn (h : Arr n w0 b3 b5 bm b6 b7 N hv vp W o ms wd) {row : Option Nat} (hg : W.grownBy W' row) (hr : ∀ r, row = some r → w0.heap.size ≤ r ∧ ∃ ob : Obj, W.heap[r]? = some ob ∧ ob.isCells = false) : Arr n w0 b3 b5 bm b6 b7 N hv vp W' o ms wd := by
  refine h.keep (h.below.grown hg h.below.size fun k e => (hr k e).1) hg.size fun b cs t hc => hg.block b (blk_lt hc) fun e => ?_
  obtain ⟨_, ob, ho, hcl⟩ := hr b e.symm
  rw [hc] at ho
  injection ho with ho
  subst ho
  cases hcl
theorem Arr.setM (h : Arr n w0 b3 b5 bm b6 b7 N hv vp W o ms wd) {k : Nat} (hk : k < n) (x : Int) : Arr n w0 b3 b5 bm b6 b7 N hv vp (W.setCell ⟨bm, k, none⟩ (.int .i64 x)) o (ms.set k x) wd := by
  obtain ⟨vo, h5, ho⟩ := h.x5
  have hl := h.len
  obtain ⟨y, hy⟩ : ∃ y, ms[k]? = some y := ⟨_, List.getElem?_eq_getElem (by omega)⟩
  obtain ⟨g, eg, _, hlt, hc, hf, ⟨cs, hcs⟩, hset⟩ := Own1.at_ h.xm (ints_get hy)
  injection eg with eg
  injection eg with eg
  subst eg
  have hs := hset (.int .i64 x)
  rw [show (ints ms).set k (.int .i64 x) = ints (ms.set k x) from by simp [ints, List.map_set]] at hs
  have kp : ∀ {b : Nat} {cs' : Array Value} {t : TypeId}, W.heap[b]? = some (.cells cs' t (0, 0)) → t ≠ 3 → (W.setCell ⟨bm, k, none⟩ (.int .i64 x)).heap[b]? = W.heap[b]? := fun hb ht => blk_other (blk_ne hb hcs ht)
  refine ⟨h.below.setCell h.lo.2.2.1 _, h.lo, (kp h.x3 (by decide)).trans h.x3, ⟨vo, (kp h5 (by decide)).trans h5, ho.keep fun b e => blk_other fun e' => ?_⟩, (kp h.x6 (by decide)).trans h.x6, (kp h.x7 (by decide)).trans h.x7, hs, h.xp.keep' fun b x e hw => kp hw.blk (by decide), h.ne.1, h.ne.2.1, by simp [World.setCell]; exact h.ne.2.2⟩
  have := (ho.lt e).1
  have := h.ne.2.1
  omega
theorem Arr.wr (h : Arr n w0 b3 b5 bm b6 b7 N hv vp W o ms wd) {g x : Nat} (hg : vp = .slice (some ⟨g, 0, none⟩) 1 1) (hn : n ≠ 0) (hw : Wr W W' g 0 (.int .u64 (x : Int))) (hx : x < 2 ^ n) : Arr n w0 b3 b5 bm b6 b7 N hv vp W' o ms x := by
  obtain ⟨vo, h5, ho⟩ := h.x5
  obtain ⟨⟨g', e', hb', hw'⟩, hl'⟩ := h.xp
  rw [if_neg hn, hg] at e'
  injection e' with e'
  injection e' with e'
  injection e' with e'
  subst e'
  have hwd := hw' hn
  have kp : ∀ {b : Nat} {cs' : Array Value} {t : TypeId}, W.heap[b]? = some (.cells cs' t (0, 0)) → t ≠ 62 → W'.heap[b]? = W.heap[b]? := fun hb ht => hw.block (blk_ne hb hwd.blk ht)
  refine ⟨hw.below h.below hb', h.lo, (kp h.x3 (by decide)).trans h.x3, ⟨vo, (kp h5 (by decide)).trans h5, ho.keep fun b e => ?_⟩, (kp h.x6 (by decide)).trans h.x6, (kp h.x7 (by decide)).trans h.x7, h.xm.keep fun b e => ?_, ⟨⟨g, by rw [if_neg hn, hg], hb', fun _ => hw.word hwd⟩, hx⟩, h.ne.1, h.ne.2.1, by rw [hw.size]; exact h.ne.2.2⟩
  · obtain ⟨cs, hc⟩ := ho.typed e
    exact kp hc (by decide)
  · obtain ⟨cs, hc⟩ := h.xm.typed e
    exact kp hc (by decide)
/-- one number that is counted down: where it lies -/
theorem Arr.cell (h : Arr n w0 b3 b5 bm b6 b7 N hv vp W o ms wd) {k : Nat} {x : Int} (hk : ms[k]? = some x) : W.cell? ⟨bm, k, none⟩ = some (.int .i64 x) ∧ W.frozen? ⟨bm, k, none⟩ = false ∧ bm < W.heap.size := by
  obtain ⟨g, eg, _, hlt, hc, hf, _⟩ := Own1.at_ h.xm (ints_get hk)
  injection eg with eg
  injection eg with eg
  subst eg
  exact ⟨hc, hf, hlt⟩
end

/-- the order grows by one -/
theorem Arr.append {n : Nat} {w0 : World} {b3 b5 bm b6 b7 N : Nat} {hv vp : Value} {W : World} {o : List Nat} {ms : List Int} {wd : Nat} (h : Arr n w0 b3 b5 bm b6 b7 N hv vp W o ms wd) {vo v' : Value} {w1 : World} {tmp : Obj} {x k : Nat}
    (h5 : W.heap[b5]? = some (.cells #[vo] 30 (0, 0))) (hg : (W.alloc tmp).grownBy w1 vo.ownBlock) (hown : w1.ownsRow N 3 1 v' k (ints (num o) ++ [.int .i64 (x : Int)])) :
    Arr n w0 b3 b5 bm b6 b7 N hv vp (w1.setCell ⟨b5, 0, none⟩ v') (o ++ [x]) ms wd ∧ KeepsOthers W (w1.setCell ⟨b5, 0, none⟩ v') ∧ w1.heap[b5]? = some (.cells #[vo] 30 (0, 0)) := by
  obtain ⟨vo', h5', ho⟩ := h.x5
  have e5 := h5'.symm.trans h5
  injection e5 with e5
  injection e5 with e5
  have e5' : vo' = vo := by simpa using e5
  subst e5'
  have hk : k = (num o).length + 1 := by have := own_len hown; simp [ints_len] at this; omega
  have ho' : OwnI W w0.heap.size vo' (num o) := ho.rebase (Nat.le_trans (Nat.le_trans h.lo.2.2.1 (Nat.le_of_lt h.ne.2.1)) (Nat.le_refl _))
  have hN : w0.heap.size ≤ N := Nat.le_trans h.lo.2.2.1 (Nat.le_of_lt h.ne.2.1)
  have hown1 : Own1 w1 N 3 v' (ints (num o) ++ [.int .i64 (x : Int)]) := by
    unfold Own1
    rw [own_len hown]; exact hown
  have hap := Boxed.appended (B := b5) (n₀ := w0.heap.size) h5 (by decide) ho' h.below.size h.lo.2.1 (m := k) (ys := ints (num o) ++ [.int .i64 (x : Int)]) (v' := v') (w1 := w1) (tmp := tmp) (by have := hown1.rebase hN; unfold Own1 at this; rw [own_len hown] at this; exact this) hg
  obtain ⟨hb1, hb2, hr2, hk2, hbl⟩ := hap
  -- what neither the row nor the box is stays
  have kp : ∀ {b : Nat} {cs' : Array Value} {t : TypeId}, W.heap[b]? = some (.cells cs' t (0, 0)) → vo'.ownBlock ≠ some b → b ≠ b5 → (w1.setCell ⟨b5, 0, none⟩ v').heap[b]? = W.heap[b]? := by
    intro b cs' t hb hne hne5
    rw [blk_other hne5, hg.block b (Nat.lt_of_lt_of_le (blk_lt hb) (by simp)) (fun e => hne e.symm)]
    exact Below.heap_alloc W tmp b (blk_lt hb)
  have nrow : ∀ {b : Nat} {cs' : Array Value} {t : TypeId}, W.heap[b]? = some (.cells cs' t (0, 0)) → t ≠ 3 → vo'.ownBlock ≠ some b := by
    intro b cs' t hb ht e
    obtain ⟨cs, hc⟩ := ho.typed e
    exact blk_ne hb hc ht rfl
  have n5 : ∀ {b : Nat} {cs' : Array Value} {t : TypeId}, W.heap[b]? = some (.cells cs' t (0, 0)) → t ≠ 30 → b ≠ b5 := fun hb ht => blk_ne hb h5 ht
  refine ⟨⟨h.below.trans hbl, h.lo, (kp h.x3 (nrow h.x3 (by decide)) (n5 h.x3 (by decide))).trans h.x3, ⟨v', hb2, ?_⟩, (kp h.x6 (nrow h.x6 (by decide)) (fun e => h.ne.1 e.symm)).trans h.x6, (kp h.x7 (nrow h.x7 (by decide)) (n5 h.x7 (by decide))).trans h.x7, h.xm.keep fun b e => ?_, h.xp.keep' fun b x e hw => kp hw.blk (nrow hw.blk (by decide)) (n5 hw.blk (by decide)), h.ne.1, h.ne.2.1, Nat.le_trans h.ne.2.2 hbl.size⟩, hk2, hb1⟩
  · rw [num_app]
    show Own1 _ _ _ _ (ints (num o ++ num [x]))
    rw [ints_app]
    exact hown1.keep fun b e => blk_other fun e' => by
      subst e'
      obtain ⟨cs, hc⟩ := hown1.typed e
      exact blk_ne hb1 hc (by decide) rfl
  · obtain ⟨cs, hc⟩ := h.xm.typed e
    have hbm : b = bm := by simp [Value.ownBlock] at e; exact e.symm
    subst hbm
    refine kp hc (fun e' => ?_) (n5 hc (by decide))
    have := (ho.lt e').1
    have := h.ne.2.1
    omega
theorem Wr.others {w w' : World} {g i : Nat} {x : Value} (h : Wr w w' g i x) : KeepsOthers w w' := by
  have := KeepsOthers.setCell w ⟨g, i, none⟩ x
  exact ⟨by rw [h.size]; exact Nat.le_refl _, fun k o hk ho => by rw [h.heap]; exact this.same k o hk ho⟩
theorem Marks.others {W W' : World} {ds : List Nat} (h : Marks W ds) (hk : KeepsOthers W W') : Marks W' ds := ⟨h.1, fun D hD => hk.same D _ (h.2 D hD) rfl⟩

theorem Arr.start (n : Nat) (w w1 : World) (hv vp : Value) (hn : n ≤ 1000000)
    (hb : Below ((((w.alloc (.cells #[hv] 22)).alloc (.cells #[.slice none 0 0] 30)).alloc (.cells (Array.replicate n (.int .i64 0)) 3)).alloc (.cells #[.slice (some ⟨w.heap.size + 1 + 1, 0, none⟩) n n] 30)).heap.size
      ((((w.alloc (.cells #[hv] 22)).alloc (.cells #[.slice none 0 0] 30)).alloc (.cells (Array.replicate n (.int .i64 0)) 3)).alloc (.cells #[.slice (some ⟨w.heap.size + 1 + 1, 0, none⟩) n n] 30)) w1)
    (hs : SetAt w1 ((((w.alloc (.cells #[hv] 22)).alloc (.cells #[.slice none 0 0] 30)).alloc (.cells (Array.replicate n (.int .i64 0)) 3)).alloc (.cells #[.slice (some ⟨w.heap.size + 1 + 1, 0, none⟩) n n] 30)).heap.size n vp 0) :
    Arr n w w.heap.size (w.heap.size + 1) (w.heap.size + 1 + 1) (w.heap.size + 1 + 1 + 1) w1.heap.size (w1.heap.size + 1) (hv) vp (w1.alloc (.cells #[vp] 58)) [] (List.replicate n 0) 0 := by
  generalize e1 : w.alloc (.cells #[hv] 22) = W1 at hb hs
  have x1 : W1.heap[w.heap.size]? = some (.cells #[hv] 22 (0, 0)) := by rw [← e1]; exact heap_alloc_new w _
  have z1 : W1.heap.size = w.heap.size + 1 := by rw [← e1]; simp
  have b1 : Below w.heap.size w W1 := by rw [← e1]; exact (Below.refl _ _).alloc (Nat.le_refl _) _
  generalize e2 : W1.alloc (.cells #[.slice none 0 0] 30) = W2 at hb hs
  have x2 : W2.heap[W1.heap.size]? = some (.cells #[.slice none 0 0] 30 (0, 0)) := by rw [← e2]; exact heap_alloc_new W1 _
  have z2 : W2.heap.size = W1.heap.size + 1 := by rw [← e2]; simp
  have b2 : Below W1.heap.size W1 W2 := by rw [← e2]; exact (Below.refl _ _).alloc (Nat.le_refl _) _
  generalize e3 : W2.alloc (.cells (Array.replicate n (.int .i64 0)) 3) = W3 at hb hs
  have x3 : OwnI W3 W2.heap.size (.slice (some ⟨W2.heap.size, 0, none⟩) n n) (List.replicate n 0) := by
    rw [← e3]
    have := Own1.make W2 W2.heap.size 3 (Nat.le_refl _) n hn (.int .i64 0) rfl
    unfold OwnI
    rw [show ints (List.replicate n 0) = List.replicate n (.int .i64 0) from by simp [ints]]
    exact this
  have z3 : W3.heap.size = W2.heap.size + 1 := by rw [← e3]; simp
  have b3 : Below W2.heap.size W2 W3 := by rw [← e3]; exact (Below.refl _ _).alloc (Nat.le_refl _) _
  generalize e4 : W3.alloc (.cells #[.slice (some ⟨w.heap.size + 1 + 1, 0, none⟩) n n] 30) = W4 at hb hs
  have x4 : W4.heap[W3.heap.size]? = some (.cells #[.slice (some ⟨w.heap.size + 1 + 1, 0, none⟩) n n] 30 (0, 0)) := by rw [← e4]; exact heap_alloc_new W3 _
  have z4 : W4.heap.size = W3.heap.size + 1 := by rw [← e4]; simp
  have b4 : Below W3.heap.size W3 W4 := by rw [← e4]; exact (Below.refl _ _).alloc (Nat.le_refl _) _
  have b5 : Below w1.heap.size w1 (w1.alloc (.cells #[vp] 58)) := (Below.refl _ _).alloc (Nat.le_refl _) _
  have hz := hb.size
  have c4 := blw hb b5
  have c3 := blw b4 c4
  have c2 := blw b3 c3
  have c1 := blw b2 c2
  have c0 := blw b1 c1
  clear e1 e2 e3 e4
  have k2 : w.heap.size + 1 = W1.heap.size := by omega
  have k3 : w.heap.size + 1 + 1 = W2.heap.size := by omega
  have k4 : w.heap.size + 1 + 1 + 1 = W3.heap.size := by omega
  rw [k2] at x4 ⊢
  rw [show W1.heap.size + 1 = W2.heap.size from z2.symm] at x4 ⊢
  rw [show W2.heap.size + 1 = W3.heap.size from z3.symm]
  refine ⟨c0, ⟨Nat.le_refl _, by omega, by omega, by omega, by omega⟩, (c1.block _ (by omega)).trans x1, ⟨.slice none 0 0, (c2.block _ (by omega)).trans x2, Own1.nil _ _ _⟩, (c4.block _ (by omega)).trans x4, heap_alloc_new w1 _, (x3.below c3).rebase (by omega), ?_, ⟨by omega, by omega, by simp⟩⟩
  have hs' := hs.below b5
  obtain ⟨⟨g, e, hg, hw⟩, hl⟩ := hs'
  exact ⟨⟨g, e, by omega, hw⟩, hl⟩

end Go.Proofs.YtaokbjacfdipmaaDoor
