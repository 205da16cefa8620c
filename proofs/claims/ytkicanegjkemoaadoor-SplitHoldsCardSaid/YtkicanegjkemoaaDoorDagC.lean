/- Layer Dag over, for a seat that needs several layers: DagRange, DagArr, DagTab, DagRev, DagRev2. -/
import Derived.Test.YtkicanegjkemoaaDoorDagB
import Derived.WalkMore
import Derived.Test.YtkicanegjkemoaaDoorDagA
namespace Go.Proofs.YtkicanegjkemoaaDoor.Dag
set_option maxRecDepth 100000
/-! A range over the numbers of a set: what is owed of the body, what is had behind it. -/
open Go.RowKit Go.Shelf
set_option linter.unusedVariables false

/-- the record of the loop -/
def recOf (fn : FuncId) (tmps : Array Value) (ps : Array Tmp) (assign body : Code) (D : Nat) (s : LoopState) (p : Option Code) : Loop :=
  { state := s, pending := p, fn := fn, tmps := tmps, params := ps, assign := assign, body := body, defers := D }
abbrev markD (D : Nat) : Deferred := { target := .collected D, args := #[] }
/-- what the body leaves -/
abbrev bodyEnd (I : List Nat → World → Prop) (Ix : Code → List Nat → World → Prop) (pre : List Nat) (W : World) : Exit → Act → World → Prop := ownPostK (fun _ _ => True) I Ix pre W

theorem range_set {g : Operand} {ps : Array Tmp} {assign body : Code} {Q : Exit → Act → World → Prop} {a : Act} {w : World} {n : Nat} (v : Value) (base N wd : Nat)
    (hg : a.eval g = .func (.func 83) #[v] #[]) (hps : ps.size = 1) (hN : N ≤ 4096)
    (I : List Nat → World → Prop) (Ix : Code → List Nat → World → Prop) (hI : OwnFrom w.heap.size I) (hIx : ∀ c, OwnFrom w.heap.size (Ix c)) (hT : ∀ pre W, I pre W → Tab W) (hK : ∀ pre W, I pre W → SetAt W base N v wd) (h0 : I [] w) (a₁ : Nat → Act)
    (hassign : ∀ (l x : Nat) (W : World) (K : Act → World → Prop), K (a₁ x) W →
      assign.wpIn (Fence.wide.inRound l) (n - 1 - 1) Tryd.prog (Exit.then K (fun _ _ _ => False)) { tmps := (ps.zip #[Value.int .i64 (x : Int)]).foldl (fun t (p, v) => t.setIfInBounds p v) a.tmps, defers := [] } W)
    (hbody : ∀ (l : Nat) (pre : List Nat) (x : Nat) (W : World), I pre W → (∃ post, bitsL N wd = pre ++ x :: post) → body.wpIn (Fence.wide.inRound l) (n - 1 - 1) Tryd.prog (bodyEnd I Ix (pre ++ [x]) W) (a₁ x) W)
    (hdone : ∀ (D : Nat) (W : World), w.heap.size ≤ D → I (bitsL N wd) W → W.heap[D]? = some (.deferred (some [])) → Q .normal { a with defers := markD D :: a.defers } W)
    (hstop : ∀ (D : Nat) (c : Code) (pre : List Nat) (W : World), w.heap.size ≤ D → Ix c pre W → W.heap[D]? = some (.deferred (some [])) → c.wpIn Fence.wide n Tryd.prog Q { a with defers := markD D :: a.defers } W) :
    (Code.rangeFunc g ps assign body).wpIn Fence.wide n Tryd.prog Q a w := by
  refine wpIn_rangeFunc fun fn hfn => ?_
  obtain ⟨r, hr⟩ : ∃ r : LoopState → Option Code → Loop, r = recOf fn a.tmps ps assign body w.heap.size := ⟨_, rfl⟩
  have hrp : ∀ s p, (r s p).params = ps := by intro s p; rw [hr]; rfl
  have hrf : ∀ s p, (r s p).fn = fn := by intro s p; rw [hr]; rfl
  have hrt : ∀ s p, (r s p).tmps = a.tmps := by intro s p; rw [hr]; rfl
  have hra : ∀ s p, (r s p).assign = assign := by intro s p; rw [hr]; rfl
  have hrb : ∀ s p, (r s p).body = body := by intro s p; rw [hr]; rfl
  have hrs : ∀ s p, (r s p).state = s := by intro s p; rw [hr]; rfl
  have hrq : ∀ s p, (r s p).pending = p := by intro s p; rw [hr]; rfl
  have hru : ∀ s p s', ({ r s p with state := s' } : Loop) = r s' p := by intro s p s'; rw [hr]; rfl
  have hrv : ∀ s p s' p', ({ r s p with state := s', pending := p' } : Loop) = r s' p' := by intro s p s' p'; rw [hr]; rfl
  let l := w.heap.size + 1
  let W1 := (w.alloc (.deferred (some []))).alloc (.loop (r .ready none))
  have hl1 : W1.heap[l]? = some (.loop (r .ready none)) := by
    have := World.alloc_heap_new (w.alloc (.deferred (some []))) (.loop (r .ready none))
    rwa [World.size_alloc] at this
  have hd1 : W1.heap[w.heap.size]? = some (.deferred (some [])) := (Below.heap_alloc _ _ _ (by simp)).trans (World.alloc_heap_new w _)
  have hi1 : I [] W1 := hI.alloc _ (hI.alloc _ h0)
  have turn : ∀ {pre W s p} (o : Obj), I pre W → W.heap[l]? = some (.loop (r s p)) → I pre (W.putObj l o) := fun o hi h => hI.putObj o hi (by omega) h rfl
  have turnx : ∀ {c pre W s p} (o : Obj), Ix c pre W → W.heap[l]? = some (.loop (r s p)) → Ix c pre (W.putObj l o) := fun {c} {_} {_} {_} {_} o hi h => (hIx c).putObj o hi (by omega) h rfl
  have put : ∀ {W : World} {s p} (o : Obj), W.heap[l]? = some (.loop (r s p)) → (W.putObj l o).heap[l]? = some o := fun o h => World.putObj_heap_same (Array.getElem?_eq_some_iff.1 h).1
  have putD : ∀ {W : World} (o : Obj), W.heap[w.heap.size]? = some (.deferred (some [])) → (W.putObj l o).heap[w.heap.size]? = some (.deferred (some [])) := fun o h => (World.putObj_heap_other (by omega)).trans h
  refine ⟨l, [markD w.heap.size], W1, { target := .fn (.func 83) #[], args := #[v, .func (.yield l) #[] #[]] }, W1, 83, #[v, .func (.yield l) #[] #[]], W1, ?_, ?_, fun _ _ => trivial, ?_, (fun h => by cases h), ?_⟩
  · have := run_enterLoop_outer (P := Tryd.prog) (w := w) fn a.tmps ps assign body
    simp only [W1, hr]
    exact this
  · simp only [resolve, hg]
    simp [go_sem]
  · simp [invoke, go_sem]
  · refine (all_in (n - 1) l N v base wd (fun pre W => I pre W ∧ W.heap[l]? = some (.loop (r .ready none)) ∧ W.heap[w.heap.size]? = some (.deferred (some [])))
      (fun pre W => ∃ c, Ix c pre W ∧ W.heap[l]? = some (.loop (r .done (some c))) ∧ W.heap[w.heap.size]? = some (.deferred (some []))) W1 hN (fun pre W h => hT pre W h.1) (fun pre W h => hK pre W h.1) ?_ ⟨hi1, hl1, hd1⟩).mono ?_
    · rintro pre x W ⟨hi, hl, hd⟩ hpost
      have hy := run_yield (P := Tryd.prog) (args := #[Value.int .i64 (x : Int)]) hl (by rw [hrp, hps]; rfl)
      have hb := run_beginRound (P := Tryd.prog) hl (hrs _ _)
      rw [hru] at hb
      rw [hrp, hrf, hrt, hra, hrb] at hy
      refine ⟨_, _, _, _, hy, roundIn_of_wpIn hfn ?_⟩
      refine hassign l x W _ ⟨_, hb, ?_⟩
      refine wpIn_mono (hbody l pre x _ (turn _ hi hl) hpost) ?_
      have fin : ∀ (jump : Option Code) (W3 : World), KeepsOthers (W.putObj l (.loop (r .busy none))) W3 →
          (Instr.endRound l jump).run Tryd.prog W3 = .ok (.bool jump.isNone) (W3.putObj l (.loop (r (if jump.isNone then .ready else .done) jump))) ∧ W3.heap[l]? = some (.loop (r .busy none)) ∧ W3.heap[w.heap.size]? = some (.deferred (some [])) := by
        intro jump W3 hk
        have h3 := hk.same l _ (put _ hl) rfl
        have h4 := run_endRound (P := Tryd.prog) jump h3
        rw [hrv] at h4
        exact ⟨h4, h3, hk.same _ _ (putD _ hd) rfl⟩
      rintro e a3 W3 hp
      cases e with
      | normal =>
        obtain ⟨hk, _, hi3⟩ := hp
        obtain ⟨h4, h3, hd3⟩ := fin none W3 hk
        exact ⟨_, _, h4, Or.inl ⟨rfl, turn _ hi3 h3, put _ h3, putD _ hd3⟩⟩
      | ret =>
        obtain ⟨hk, hi3⟩ := hp
        obtain ⟨h4, h3, hd3⟩ := fin (some .ret) W3 hk
        exact ⟨_, _, h4, Or.inr ⟨rfl, .ret, turnx _ hi3 h3, put _ h3, putD _ hd3⟩⟩
      | exit id =>
        obtain ⟨hk, hi3⟩ := hp
        obtain ⟨h4, h3, hd3⟩ := fin (some (.exit id)) W3 hk
        exact ⟨_, _, h4, Or.inr ⟨rfl, .exit id, turnx _ hi3 h3, put _ h3, putD _ hd3⟩⟩
      | goto t =>
        obtain ⟨hk, hi3⟩ := hp
        obtain ⟨h4, h3, hd3⟩ := fin (some (.goto t)) W3 hk
        exact ⟨_, _, h4, Or.inr ⟨rfl, .goto t, turnx _ hi3 h3, put _ h3, putD _ hd3⟩⟩
      | panic ch => exact hp.elim
      | outgrown => exact hp.elim
    · rintro e W2 ⟨⟨v, rfl⟩, ⟨hi, hl, hd⟩ | ⟨pre, c, hi, hl, hd⟩⟩
      · have h5 := run_endLoop (P := Tryd.prog) hl (by rw [hrs]; simp)
        rw [hrq] at h5
        exact ⟨none, _, h5, hdone _ _ (Nat.le_refl _) (turn _ hi hl) (putD _ hd)⟩
      · have h5 := run_endLoop (P := Tryd.prog) hl (by rw [hrs]; simp)
        rw [hrq] at h5
        exact ⟨some c, _, h5, hstop _ c pre _ (Nat.le_refl _) (turnx _ hi hl) (putD _ hd)⟩

/-- a body with a label, which no goto leaves -/
theorem wpIn_scope {F : Fence} {n : Nat} {P : Program} {c : Code} {Q : Exit → Act → World → Prop} {a : Act} {w : World} (h : c.wpIn F n P (Exit.noGoto Q) a w) : (Code.scope c).wpIn F n P Q a w := by
  intro b k cs hro hb hr
  have s1 : StepsIn (Machine.fenced P F) P (lone (b.atR a (.code (.scope c) :: k)) cs w) (lone (b.atR a (.code c :: .inScope c :: k)) cs w) :=
    .one (fenced_calm hb hr rfl) (step_lone_go (by simp [stepG, stepG.exec, Frame.atR]))
  have s2 : ∀ a' w', StepsIn (Machine.fenced P F) P (lone (b.atR a' (.inScope c :: k)) cs w') (lone (b.atR a' k) cs w') := fun a' w' =>
    .one (fenced_calm hb hr rfl) (step_lone_go (by simp [stepG, stepG.exec, Frame.atR]))
  obtain ⟨e, a', w', hq, harr⟩ := h b (.inScope c :: k) cs hro hb hr
  cases e with
  | normal => exact ⟨.normal, a', w', hq, StepsIn.trans s1 (StepsIn.trans harr (s2 a' w'))⟩
  | exit id =>
    have hx : exitTo id (.inScope c :: k) = exitTo id k := by simp [exitTo]
    exact ⟨.exit id, a', w', hq, (fun k' hk => StepsIn.trans s1 (harr.1 k' (by rw [hx]; exact hk))), fun hr' hk => let ⟨k1, q1, q2⟩ := harr.2 hr' (by rw [hx]; exact hk); ⟨k1, q1, StepsIn.trans s1 q2⟩⟩
  | goto l => exact hq.elim
  | ret => exact ⟨_, a', w', hq, .of_steps s1 harr⟩
  | panic ch => exact ⟨_, a', w', hq, .of_steps s1 harr⟩
  | outgrown => exact ⟨_, a', w', hq, .of_steps s1 harr⟩

/-- marks alone are left of the calls to be made at the end -/
def Marks (W : World) (ds : List Nat) : Prop := ds.Nodup ∧ ∀ D ∈ ds, W.heap[D]? = some (.deferred (some []))
theorem leaves_marks {F : Fence} {n : Nat} {P : Program} {fn : Func} {tmps : Array Value} {R : Ending → World → Prop} {base : Nat} : ∀ (ds : List Nat) (W : World), Marks W ds → (∀ D ∈ ds, base ≤ D) →
    (∀ W', Below base W W' → (∀ k, (∀ D ∈ ds, k ≠ D) → W'.heap[k]? = W.heap[k]?) → W'.heap.size = W.heap.size → LeavesIn F n P fn tmps R [] .returning W') →
    LeavesInM F n P fn tmps R (ds.map markD) .returning W
  | [], W, _, _, h => by
    simp only [List.map_nil, LeavesInM]
    exact h W (Below.refl _ _) (fun _ _ => rfl) rfl
  | D :: ds, W, hm, hb, h => by
    have hD := hm.2 D (by simp)
    have hnd := List.nodup_cons.1 hm.1
    have hbD : base ≤ D := hb D (by simp)
    have hB : Below base W (W.putObj D (.deferred none)) := (Below.refl base W).grown (grownBy_putObj' W D _) (Nat.le_trans hbD (Nat.le_of_lt (blk_lt hD))) (fun k e => by cases e; exact hbD)
    simp only [List.map_cons, LeavesInM]
    refine ⟨by simp, Or.inl ⟨D, _, rfl, run_takeDeferred hD, ?_⟩⟩
    refine leaves_marks ds _ ⟨hnd.2, fun D' hD' => ?_⟩ (fun D' hD' => hb D' (by simp [hD'])) fun W' hB' hk hsz => ?_
    · have hne : D' ≠ D := fun e => hnd.1 (by rw [← e]; exact hD')
      exact (World.putObj_heap_other hne).trans (hm.2 D' (by simp [hD']))
    · refine h W' (hB.trans hB') (fun k hne => ?_) (by rw [hsz]; simp)
      rw [hk k (fun D' hD' => hne D' (by simp [hD']))]
      exact World.putObj_heap_other (hne D (by simp))

/-! The order: arrange. -/
open Go.RowKit Go.Shelf
set_option linter.unusedVariables false
attribute [local go_sem] Oper.semAt_some

theorem blk_ne {w : World} {g b : Nat} {cs cs' : Array Value} {t t' : TypeId} {z z' : Nat × Nat} (h : w.heap[g]? = some (.cells cs t z)) (h' : w.heap[b]? = some (.cells cs' t' z')) (ht : t ≠ t') : g ≠ b := by
  intro e
  subst e
  rw [h] at h'
  injection h' with h'
  injection h' with _ h'
  exact ht h'
theorem SetAt.keep' {w w' : World} {base n wd : Nat} {v : Value} (h : SetAt w base n v wd) (hk : ∀ b x, v.ownBlock = some b → Word w b n x → w'.heap[b]? = w.heap[b]?) : SetAt w' base n v wd := by
  obtain ⟨⟨g, e, hb, hw⟩, hl⟩ := h
  exact ⟨⟨g, e, hb, hw.keep (hk g _ (by rw [e]; rfl) hw)⟩, hl⟩

/-- what arrange holds while it goes -/
structure Arr (n : Nat) (w0 : World) (b3 b5 bm b6 b7 N : Nat) (hv vp : Value) (W : World) (o : List Nat) (ms : List Int) (wd : Nat) : Prop where
  below : Below w0.heap.size w0 W
  lo : w0.heap.size ≤ b3 ∧ w0.heap.size ≤ b5 ∧ w0.heap.size ≤ bm ∧ w0.heap.size ≤ b6 ∧ w0.heap.size ≤ b7
  x3 : W.heap[b3]? = some (.cells #[hv] 66 (0, 0))
  x5 : ∃ vo, W.heap[b5]? = some (.cells #[vo] 41 (0, 0)) ∧ OwnI W N vo (num o)
  x6 : W.heap[b6]? = some (.cells #[.slice (some ⟨bm, 0, none⟩) n n] 41 (0, 0))
  x7 : W.heap[b7]? = some (.cells #[vp] 116 (0, 0))
  xm : OwnI W w0.heap.size (.slice (some ⟨bm, 0, none⟩) n n) ms
  xp : SetAt W w0.heap.size n vp wd
  ne : b5 ≠ b6 ∧ bm < N ∧ N ≤ W.heap.size

section
variable {n : Nat} {w0 : World} {b3 b5 bm b6 b7 N : Nat} {hv vp : Value} {W W' : World} {o : List Nat} {ms : List Int} {wd : Nat}
theorem Arr.len (h : Arr n w0 b3 b5 bm b6 b7 N hv vp W o ms wd) : ms.length = n := by
  have := own_len h.xm; rw [ints_len] at this
  have h2 := h.xm.ints'.1
  omega
/-- only blocks that are no cells have turned, and new ones come -/
theorem Arr.keep (h : Arr n w0 b3 b5 bm b6 b7 N hv vp W o ms wd) (hb : Below w0.heap.size w0 W') (hs : W.heap.size ≤ W'.heap.size) (hk : ∀ (b : Nat) (cs : Array Value) (t : TypeId), W.heap[b]? = some (.cells cs t (0, 0)) → W'.heap[b]? = W.heap[b]?) :
    Arr n w0 b3 b5 bm b6 b7 N hv vp W' o ms wd := by
  obtain ⟨vo, h5, ho⟩ := h.x5
  refine ⟨hb, h.lo, (hk _ _ _ h.x3).trans h.x3, ⟨vo, (hk _ _ _ h5).trans h5, ho.keep fun b e => ?_⟩, (hk _ _ _ h.x6).trans h.x6, (hk _ _ _ h.x7).trans h.x7, h.xm.keep fun b e => ?_, h.xp.keep' fun b x e hw => hk _ _ _ hw.blk, h.ne.1, h.ne.2.1, Nat.le_trans h.ne.2.2 hs⟩
  · obtain ⟨cs, hc⟩ := ho.typed e
    exact hk _ _ _ hc
  · obtain ⟨cs, hc⟩ := h.xm.typed e
    exact hk _ _ _ hc
theorem Arr.alloc (h : Arr n w0 b3 b5 bm b6 b7 N hv vp W o ms wd) (ob : Obj) : Arr n w0 b3 b5 bm b6 b7 N hv vp (W.alloc ob) o ms wd :=
  h.keep (h.below.alloc h.below.size ob) (by simp) fun b cs t hc => Below.heap_alloc W ob b (blk_lt hc)
theorem Arr.turn (h : Arr n w0 b3 b5 bm b6 b7 N hv vp W o ms wd) {row : Option Nat} (hg : W.grownBy W' row) (hr : ∀ r, row = some r → w0.heap.size ≤ r ∧ ∃ ob : Obj, W.heap[r]? = some ob ∧ ob.isCells = false) : Arr n w0 b3 b5 bm b6 b7 N hv vp W' o ms wd := by
  refine h.keep (h.below.grown hg h.below.size fun k e => (hr k e).1) hg.size fun b cs t hc => hg.block b (blk_lt hc) fun e => ?_
  obtain ⟨_, ob, ho, hcl⟩ := hr b e.symm
  rw [hc] at ho
  injection ho with ho
  subst ho
  cases hcl
theorem Arr.setM (h : Arr n w0 b3 b5 bm b6 b7 N hv vp W o ms wd) {k : Nat} (hk : k < n) (x : Int) : Arr n w0 b3 b5 bm b6 b7 N hv vp (W.setCell ⟨bm, k, none⟩ (.int .i64 x)) o (ms.set k x) wd := by
  obtain ⟨vo, h5, ho⟩ := h.x5
  have hl := h.len
  obtain ⟨y, hy⟩ : ∃ y, ms[k]? = some y := ⟨_, List.getElem?_eq_getElem (by omega)⟩
  obtain ⟨g, eg, _, hlt, hc, hf, ⟨cs, hcs⟩, hset⟩ := Own1.at_ h.xm (ints_get hy)
  injection eg with eg
  injection eg with eg
  subst eg
  have hs := hset (.int .i64 x)
  rw [show (ints ms).set k (.int .i64 x) = ints (ms.set k x) from by simp [ints, List.map_set]] at hs
  have kp : ∀ {b : Nat} {cs' : Array Value} {t : TypeId}, W.heap[b]? = some (.cells cs' t (0, 0)) → t ≠ 3 → (W.setCell ⟨bm, k, none⟩ (.int .i64 x)).heap[b]? = W.heap[b]? := fun hb ht => blk_other (blk_ne hb hcs ht)
  refine ⟨h.below.setCell h.lo.2.2.1 _, h.lo, (kp h.x3 (by decide)).trans h.x3, ⟨vo, (kp h5 (by decide)).trans h5, ho.keep fun b e => blk_other fun e' => ?_⟩, (kp h.x6 (by decide)).trans h.x6, (kp h.x7 (by decide)).trans h.x7, hs, h.xp.keep' fun b x e hw => kp hw.blk (by decide), h.ne.1, h.ne.2.1, by simp [World.setCell]; exact h.ne.2.2⟩
  have := (ho.lt e).1
  have := h.ne.2.1
  omega
theorem Arr.wr (h : Arr n w0 b3 b5 bm b6 b7 N hv vp W o ms wd) {g m i x : Nat} {y : Value} (hg : vp = .slice (some ⟨g, 0, none⟩) m m) (hw : Wr W W' g i y) (hwd2 : Word W' g n x) (hx : x < 2 ^ n) : Arr n w0 b3 b5 bm b6 b7 N hv vp W' o ms x := by
  obtain ⟨vo, h5, ho⟩ := h.x5
  have hxp := h.xp
  subst hg
  obtain ⟨em, hb', hwd⟩ := hxp.open_
  have kp : ∀ {b : Nat} {cs' : Array Value} {t : TypeId}, W.heap[b]? = some (.cells cs' t (0, 0)) → t ≠ 131 → W'.heap[b]? = W.heap[b]? := fun hb ht => hw.block (blk_ne hb hwd.blk ht)
  refine ⟨hw.below h.below hb', h.lo, (kp h.x3 (by decide)).trans h.x3, ⟨vo, (kp h5 (by decide)).trans h5, ho.keep fun b e => ?_⟩, (kp h.x6 (by decide)).trans h.x6, (kp h.x7 (by decide)).trans h.x7, h.xm.keep fun b e => ?_, ⟨⟨g, by rw [em], hb', hwd2⟩, hx⟩, h.ne.1, h.ne.2.1, by rw [hw.size]; exact h.ne.2.2⟩
  · obtain ⟨cs, hc⟩ := ho.typed e
    exact kp hc (by decide)
  · obtain ⟨cs, hc⟩ := h.xm.typed e
    exact kp hc (by decide)
/-- one number that is counted down: where it lies -/
theorem Arr.cell (h : Arr n w0 b3 b5 bm b6 b7 N hv vp W o ms wd) {k : Nat} {x : Int} (hk : ms[k]? = some x) : W.cell? ⟨bm, k, none⟩ = some (.int .i64 x) ∧ W.frozen? ⟨bm, k, none⟩ = false ∧ bm < W.heap.size := by
  obtain ⟨g, eg, _, hlt, hc, hf, _⟩ := Own1.at_ h.xm (ints_get hk)
  injection eg with eg
  injection eg with eg
  subst eg
  exact ⟨hc, hf, hlt⟩
end

/-- the order grows by one -/
theorem Arr.append {n : Nat} {w0 : World} {b3 b5 bm b6 b7 N : Nat} {hv vp : Value} {W : World} {o : List Nat} {ms : List Int} {wd : Nat} (h : Arr n w0 b3 b5 bm b6 b7 N hv vp W o ms wd) {vo v' : Value} {w1 : World} {tmp : Obj} {x k : Nat}
    (h5 : W.heap[b5]? = some (.cells #[vo] 41 (0, 0))) (hg : (W.alloc tmp).grownBy w1 vo.ownBlock) (hown : w1.ownsRow N 3 1 v' k (ints (num o) ++ [.int .i64 (x : Int)])) :
    Arr n w0 b3 b5 bm b6 b7 N hv vp (w1.setCell ⟨b5, 0, none⟩ v') (o ++ [x]) ms wd ∧ KeepsOthers W (w1.setCell ⟨b5, 0, none⟩ v') ∧ w1.heap[b5]? = some (.cells #[vo] 41 (0, 0)) := by
  obtain ⟨vo', h5', ho⟩ := h.x5
  have e5 := h5'.symm.trans h5
  injection e5 with e5
  injection e5 with e5
  have e5' : vo' = vo := by simpa using e5
  subst e5'
  have hk : k = (num o).length + 1 := by have := own_len hown; simp [ints_len] at this; omega
  have ho' : OwnI W w0.heap.size vo' (num o) := ho.rebase (Nat.le_trans (Nat.le_trans h.lo.2.2.1 (Nat.le_of_lt h.ne.2.1)) (Nat.le_refl _))
  have hN : w0.heap.size ≤ N := Nat.le_trans h.lo.2.2.1 (Nat.le_of_lt h.ne.2.1)
  have hown1 : Own1 w1 N 3 v' (ints (num o) ++ [.int .i64 (x : Int)]) := by
    unfold Own1
    rw [own_len hown]; exact hown
  have hap := Boxed.appended (B := b5) (n₀ := w0.heap.size) h5 (by decide) ho' h.below.size h.lo.2.1 (m := k) (ys := ints (num o) ++ [.int .i64 (x : Int)]) (v' := v') (w1 := w1) (tmp := tmp) (by have := hown1.rebase hN; unfold Own1 at this; rw [own_len hown] at this; exact this) hg
  obtain ⟨hb1, hb2, hr2, hk2, hbl⟩ := hap
  -- what neither the row nor the box is stays
  have kp : ∀ {b : Nat} {cs' : Array Value} {t : TypeId}, W.heap[b]? = some (.cells cs' t (0, 0)) → vo'.ownBlock ≠ some b → b ≠ b5 → (w1.setCell ⟨b5, 0, none⟩ v').heap[b]? = W.heap[b]? := by
    intro b cs' t hb hne hne5
    rw [blk_other hne5, hg.block b (Nat.lt_of_lt_of_le (blk_lt hb) (by simp)) (fun e => hne e.symm)]
    exact Below.heap_alloc W tmp b (blk_lt hb)
  have nrow : ∀ {b : Nat} {cs' : Array Value} {t : TypeId}, W.heap[b]? = some (.cells cs' t (0, 0)) → t ≠ 3 → vo'.ownBlock ≠ some b := by
    intro b cs' t hb ht e
    obtain ⟨cs, hc⟩ := ho.typed e
    exact blk_ne hb hc ht rfl
  have n5 : ∀ {b : Nat} {cs' : Array Value} {t : TypeId}, W.heap[b]? = some (.cells cs' t (0, 0)) → t ≠ 41 → b ≠ b5 := fun hb ht => blk_ne hb h5 ht
  refine ⟨⟨h.below.trans hbl, h.lo, (kp h.x3 (nrow h.x3 (by decide)) (n5 h.x3 (by decide))).trans h.x3, ⟨v', hb2, ?_⟩, (kp h.x6 (nrow h.x6 (by decide)) (fun e => h.ne.1 e.symm)).trans h.x6, (kp h.x7 (nrow h.x7 (by decide)) (n5 h.x7 (by decide))).trans h.x7, h.xm.keep fun b e => ?_, h.xp.keep' fun b x e hw => kp hw.blk (nrow hw.blk (by decide)) (n5 hw.blk (by decide)), h.ne.1, h.ne.2.1, Nat.le_trans h.ne.2.2 hbl.size⟩, hk2, hb1⟩
  · rw [num_app]
    show Own1 _ _ _ _ (ints (num o ++ num [x]))
    rw [ints_app]
    exact hown1.keep fun b e => blk_other fun e' => by
      subst e'
      obtain ⟨cs, hc⟩ := hown1.typed e
      exact blk_ne hb1 hc (by decide) rfl
  · obtain ⟨cs, hc⟩ := h.xm.typed e
    have hbm : b = bm := by simp [Value.ownBlock] at e; exact e.symm
    subst hbm
    refine kp hc (fun e' => ?_) (n5 hc (by decide))
    have := (ho.lt e').1
    have := h.ne.2.1
    omega
theorem Wr.others {w w' : World} {g i : Nat} {x : Value} (h : Wr w w' g i x) : KeepsOthers w w' := by
  have := KeepsOthers.setCell w ⟨g, i, none⟩ x
  exact ⟨by rw [h.size]; exact Nat.le_refl _, fun k o hk ho => by rw [h.heap]; exact this.same k o hk ho⟩
theorem Marks.others {W W' : World} {ds : List Nat} (h : Marks W ds) (hk : KeepsOthers W W') : Marks W' ds := ⟨h.1, fun D hD => hk.same D _ (h.2 D hD) rfl⟩

theorem Arr.start (n : Nat) (w w1 : World) (hv vp : Value) (hn : n ≤ 1000000)
    (hb : Below ((((w.alloc (.cells #[hv] 66)).alloc (.cells #[.slice none 0 0] 41)).alloc (.cells (Array.replicate n (.int .i64 0)) 3)).alloc (.cells #[.slice (some ⟨w.heap.size + 1 + 1, 0, none⟩) n n] 41)).heap.size
      ((((w.alloc (.cells #[hv] 66)).alloc (.cells #[.slice none 0 0] 41)).alloc (.cells (Array.replicate n (.int .i64 0)) 3)).alloc (.cells #[.slice (some ⟨w.heap.size + 1 + 1, 0, none⟩) n n] 41)) w1)
    (hs : SetAt w1 ((((w.alloc (.cells #[hv] 66)).alloc (.cells #[.slice none 0 0] 41)).alloc (.cells (Array.replicate n (.int .i64 0)) 3)).alloc (.cells #[.slice (some ⟨w.heap.size + 1 + 1, 0, none⟩) n n] 41)).heap.size n vp 0) :
    Arr n w w.heap.size (w.heap.size + 1) (w.heap.size + 1 + 1) (w.heap.size + 1 + 1 + 1) w1.heap.size (w1.heap.size + 1) (hv) vp (w1.alloc (.cells #[vp] 116)) [] (List.replicate n 0) 0 := by
  generalize e1 : w.alloc (.cells #[hv] 66) = W1 at hb hs
  have x1 : W1.heap[w.heap.size]? = some (.cells #[hv] 66 (0, 0)) := by rw [← e1]; exact heap_alloc_new w _
  have z1 : W1.heap.size = w.heap.size + 1 := by rw [← e1]; simp
  have b1 : Below w.heap.size w W1 := by rw [← e1]; exact (Below.refl _ _).alloc (Nat.le_refl _) _
  generalize e2 : W1.alloc (.cells #[.slice none 0 0] 41) = W2 at hb hs
  have x2 : W2.heap[W1.heap.size]? = some (.cells #[.slice none 0 0] 41 (0, 0)) := by rw [← e2]; exact heap_alloc_new W1 _
  have z2 : W2.heap.size = W1.heap.size + 1 := by rw [← e2]; simp
  have b2 : Below W1.heap.size W1 W2 := by rw [← e2]; exact (Below.refl _ _).alloc (Nat.le_refl _) _
  generalize e3 : W2.alloc (.cells (Array.replicate n (.int .i64 0)) 3) = W3 at hb hs
  have x3 : OwnI W3 W2.heap.size (.slice (some ⟨W2.heap.size, 0, none⟩) n n) (List.replicate n 0) := by
    rw [← e3]
    have := Own1.make W2 W2.heap.size 3 (Nat.le_refl _) n hn (.int .i64 0) rfl
    unfold OwnI
    rw [show ints (List.replicate n 0) = List.replicate n (.int .i64 0) from by simp [ints]]
    exact this
  have z3 : W3.heap.size = W2.heap.size + 1 := by rw [← e3]; simp
  have b3 : Below W2.heap.size W2 W3 := by rw [← e3]; exact (Below.refl _ _).alloc (Nat.le_refl _) _
  generalize e4 : W3.alloc (.cells #[.slice (some ⟨w.heap.size + 1 + 1, 0, none⟩) n n] 41) = W4 at hb hs
  have x4 : W4.heap[W3.heap.size]? = some (.cells #[.slice (some ⟨w.heap.size + 1 + 1, 0, none⟩) n n] 41 (0, 0)) := by rw [← e4]; exact heap_alloc_new W3 _
  have z4 : W4.heap.size = W3.heap.size + 1 := by rw [← e4]; simp
  have b4 : Below W3.heap.size W3 W4 := by rw [← e4]; exact (Below.refl _ _).alloc (Nat.le_refl _) _
  have b5 : Below w1.heap.size w1 (w1.alloc (.cells #[vp] 116)) := (Below.refl _ _).alloc (Nat.le_refl _) _
  have hz := hb.size
  have c4 := blw hb b5
  have c3 := blw b4 c4
  have c2 := blw b3 c3
  have c1 := blw b2 c2
  have c0 := blw b1 c1
  clear e1 e2 e3 e4
  have k2 : w.heap.size + 1 = W1.heap.size := by omega
  have k3 : w.heap.size + 1 + 1 = W2.heap.size := by omega
  have k4 : w.heap.size + 1 + 1 + 1 = W3.heap.size := by omega
  rw [k2] at x4 ⊢
  rw [show W1.heap.size + 1 = W2.heap.size from z2.symm] at x4 ⊢
  rw [show W2.heap.size + 1 = W3.heap.size from z3.symm]
  refine ⟨c0, ⟨Nat.le_refl _, by omega, by omega, by omega, by omega⟩, (c1.block _ (by omega)).trans x1, ⟨.slice none 0 0, (c2.block _ (by omega)).trans x2, Own1.nil _ _ _⟩, (c4.block _ (by omega)).trans x4, heap_alloc_new w1 _, (x3.below c3).rebase (by omega), ?_, ⟨by omega, by omega, by simp⟩⟩
  have hs' := hs.below b5
  obtain ⟨⟨g, e, hg, hw⟩, hl⟩ := hs'
  exact ⟨⟨g, e, by omega, hw⟩, hl⟩

/-! Rows of rows that the call made, no two in one block: what is read, written, laid behind them. -/
open Go.RowKit
set_option linter.unusedVariables false

structure Tbl (w : World) (base : Nat) (t e : TypeId) (v : Value) (vs : List Value) (rows : List (List Value)) : Prop where
  out : Own1 w base t v vs
  len : vs.length = rows.length
  own : ∀ (k : Nat) (us : List Value) (u : Value), rows[k]? = some us → vs[k]? = some u → Own1 w base e u us
  apart : ∀ (j k : Nat) (x y : Value) (b : Nat), j ≠ k → vs[j]? = some x → vs[k]? = some y → x.ownBlock = some b → y.ownBlock ≠ some b

section
variable {w w' : World} {base : Nat} {t e : TypeId} {v v' : Value} {vs : List Value} {rows : List (List Value)}
theorem Tbl.nil (w : World) (base : Nat) (t e : TypeId) : Tbl w base t e (.slice none 0 0) [] [] :=
  ⟨Own1.nil _ _ _, rfl, (fun k us u h => by simp at h), (fun j k x y b _ h => by simp at h)⟩
theorem Tbl.at_ (h : Tbl w base t e v vs rows) {k : Nat} {us : List Value} (hk : rows[k]? = some us) : ∃ u, vs[k]? = some u ∧ Own1 w base e u us := by
  have hlt : k < vs.length := by rw [h.len]; exact (List.getElem?_eq_some_iff.1 hk).1
  exact ⟨_, List.getElem?_eq_getElem hlt, h.own k us _ hk (List.getElem?_eq_getElem hlt)⟩
/-- one row: its cell, and itself -/
theorem Tbl.row {A : Option Addr} {n c : Nat} (h : Tbl w base t e (.slice A n c) vs rows) {k : Nat} {us : List Value} (hk : rows[k]? = some us) :
    ∃ g A' c', A = some ⟨g, 0, none⟩ ∧ base ≤ g ∧ g < w.heap.size ∧ vs[k]? = some (.slice A' us.length c') ∧ w.cell? ⟨g, k, none⟩ = some (.slice A' us.length c') ∧ w.frozen? ⟨g, k, none⟩ = false ∧ Own1 w base e (.slice A' us.length c') us := by
  obtain ⟨u, hu, ho⟩ := h.at_ hk
  obtain ⟨A', c', e1, _⟩ := ho.slice
  subst e1
  obtain ⟨g, eg, hb, hlt, hc, hf, _⟩ := Own1.at_ h.out hu
  exact ⟨g, A', c', eg, hb, hlt, hu, hc, hf, ho⟩
/-- what lies elsewhere may turn -/
theorem Tbl.keep (h : Tbl w base t e v vs rows) (hv : ∀ b, v.ownBlock = some b → w'.heap[b]? = w.heap[b]?) (hk : ∀ (k : Nat) (u : Value) (b : Nat), vs[k]? = some u → u.ownBlock = some b → w'.heap[b]? = w.heap[b]?) : Tbl w' base t e v vs rows :=
  ⟨h.out.keep hv, h.len, fun k us u h1 h2 => (h.own k us u h1 h2).keep fun b e => hk k u b h2 e, h.apart⟩
theorem Tbl.lt (h : Tbl w base t e v vs rows) {k b : Nat} {u : Value} (hu : vs[k]? = some u) (hb : u.ownBlock = some b) : base ≤ b ∧ b < w.heap.size ∧ ∃ cs, w.heap[b]? = some (.cells cs e (0, 0)) := by
  have hlt : k < rows.length := by rw [← h.len]; exact (List.getElem?_eq_some_iff.1 hu).1
  have ho := h.own k _ u (List.getElem?_eq_getElem hlt) hu
  exact ⟨(ho.lt hb).1, (ho.lt hb).2, ho.typed hb⟩
theorem Tbl.below (h : Tbl w base t e v vs rows) (hb : Below w.heap.size w w') : Tbl w' base t e v vs rows :=
  h.keep (fun b e => hb.block b (h.out.lt e).2) fun k u b hu e => hb.block b (h.lt hu e).2.1
theorem Tbl.rebase (h : Tbl w base t e v vs rows) {base' : Nat} (hb : base' ≤ base) : Tbl w base' t e v vs rows := ⟨h.out.rebase hb, h.len, fun k us u h1 h2 => (h.own k us u h1 h2).rebase hb, h.apart⟩
/-- a row's block is not the outer one -/
theorem Tbl.ne (h : Tbl w base t e v vs rows) (hte : t ≠ e) {k b : Nat} {u : Value} (hu : vs[k]? = some u) (hb : u.ownBlock = some b) : v.ownBlock ≠ some b := by
  intro e'
  obtain ⟨_, _, cs, hc⟩ := h.lt hu hb
  obtain ⟨cs', hc'⟩ := h.out.typed e'
  exact blk_ne hc' hc hte rfl
/-- one row is another one: in its own block, or in a new one -/
theorem Tbl.update (h : Tbl w base t e v vs rows) (hte : t ≠ e) {g k : Nat} {n c : Nat} (hv : v = .slice (some ⟨g, 0, none⟩) n c) {u u' : Value} {us' : List Value} (hu : vs[k]? = some u)
    {w1 : World} (hk : ∀ b, b < w.heap.size → u.ownBlock ≠ some b → w1.heap[b]? = w.heap[b]?) (ho : Own1 w1 base e u' us') (hb : u'.ownBlock = u.ownBlock ∨ ∀ b, u'.ownBlock = some b → w.heap.size ≤ b) :
    Tbl (w1.setCell ⟨g, k, none⟩ u') base t e v (vs.set k u') (rows.set k us') ∧ w1.cell? ⟨g, k, none⟩ = some u ∧ w1.frozen? ⟨g, k, none⟩ = false := by
  subst hv
  have hgu : u.ownBlock ≠ some g := fun e' => h.ne hte hu e' rfl
  have hout1 : Own1 w1 base t (.slice (some ⟨g, 0, none⟩) n c) vs := h.out.keep fun b e' => by
    have hgb : g = b := by simpa [Value.ownBlock] using e'
    subst hgb
    exact hk _ (h.out.lt (by rfl)).2 hgu
  obtain ⟨g2, eg, _, _, hc, hf, _, hset⟩ := Own1.at_ hout1 hu
  injection eg with eg
  injection eg with eg
  subst eg
  have hu'g : u'.ownBlock ≠ some g := by
    intro e'
    rcases hb with hb | hb
    · rw [hb] at e'; exact hgu e'
    · have := hb g e'
      have := (h.out.lt (b := g) rfl).2
      omega
  have hkl : k < vs.length := (List.getElem?_eq_some_iff.1 hu).1
  refine ⟨⟨hset u', by simp [h.len], fun j us x hj hx => ?_, fun i j x y b hij hx hy hbx => ?_⟩, hc, hf⟩
  · by_cases e' : k = j
    · subst e'
      rw [List.getElem?_set, if_pos rfl, if_pos (by rw [← h.len]; exact hkl)] at hj
      rw [List.getElem?_set, if_pos rfl, if_pos hkl] at hx
      injection hj with hj
      injection hx with hx
      subst hj hx
      exact ho.keep fun b e => blk_other fun e' => hu'g (by rw [e, e'])
    · rw [List.getElem?_set, if_neg e'] at hj hx
      refine (h.own j us x hj hx).keep fun b e => ?_
      have hbg : b ≠ g := fun e2 => h.ne hte hx e (by rw [e2]; rfl)
      rw [blk_other hbg]
      exact hk b (h.lt hx e).2.1 (fun e2 => h.apart k j u x b (fun e3 => e' e3) hu hx e2 e)
  · have key : ∀ {a z : Value} {j : Nat}, k ≠ j → a = u' → vs[j]? = some z → ∀ b, a.ownBlock = some b → z.ownBlock ≠ some b := by
      intro a z j hkj ea hz b hab
      subst ea
      rcases hb with hb | hb
      · rw [hb] at hab; exact h.apart k j u z b hkj hu hz hab
      · intro e2
        have := hb b hab
        have := (h.lt hz e2).2.1
        omega
    rw [List.getElem?_set] at hx hy
    by_cases ei : k = i
    · subst ei
      rw [if_pos rfl, if_pos hkl] at hx
      rw [if_neg hij] at hy
      injection hx with hx
      exact key hij hx.symm hy b hbx
    · rw [if_neg ei] at hx
      by_cases ej : k = j
      · subst ej
        rw [if_pos rfl, if_pos hkl] at hy
        injection hy with hy
        intro e2
        exact key ei hy.symm hx b e2 hbx
      · rw [if_neg ej] at hy
        exact h.apart i j x y b hij hx hy hbx
/-- append onto a row, the new row laid in its place -/
theorem Tbl.appended {g k n c : Nat} (h : Tbl w base t e (.slice (some ⟨g, 0, none⟩) n c) vs rows) (hte : t ≠ e) {u u' : Value} {us' : List Value} (hu : vs[k]? = some u) {tmp : Obj} {w1 : World} (hg : (w.alloc tmp).grownBy w1 u.ownBlock)
    (ho : Own1 w1 base e u' us') (hb : u'.ownBlock = u.ownBlock ∨ u'.ownBlock = some (w.alloc tmp).heap.size) (hbase : base ≤ w.heap.size) :
    Tbl (w1.setCell ⟨g, k, none⟩ u') base t e (.slice (some ⟨g, 0, none⟩) n c) (vs.set k u') (rows.set k us') ∧ w1.cell? ⟨g, k, none⟩ = some u ∧ w1.frozen? ⟨g, k, none⟩ = false ∧ Below base w (w1.setCell ⟨g, k, none⟩ u') := by
  obtain ⟨h1, h2, h3⟩ := h.update hte rfl hu (w1 := w1) (u' := u') (us' := us') (fun b hb hne => (hg.block b (Nat.lt_of_lt_of_le hb (by simp)) (fun e => hne e.symm)).trans (Below.heap_alloc w tmp b hb)) ho (by
    rcases hb with hb | hb
    · exact Or.inl hb
    · refine Or.inr fun b e => ?_
      rw [hb] at e
      injection e with e
      simp at e
      omega)
  refine ⟨h1, h2, h3, ?_⟩
  exact (((Below.refl _ w).alloc hbase tmp).grown hg (by simp; omega) fun j e => (h.lt hu e).1).setCell (p := ⟨g, k, none⟩) (h.out.lt rfl).1 _
/-- one cell of a row -/
theorem Tbl.setIn (h : Tbl w base t e v vs rows) (hte : t ≠ e) {k j : Nat} {us : List Value} {A : Option Addr} {c : Nat} {y : Value} (hk : rows[k]? = some us) (hu : vs[k]? = some (.slice A us.length c)) (hj : us[j]? = some y) (x : Value) :
    ∃ g, A = some ⟨g, 0, none⟩ ∧ base ≤ g ∧ g < w.heap.size ∧ w.cell? ⟨g, j, none⟩ = some y ∧ w.frozen? ⟨g, j, none⟩ = false ∧ Tbl (w.setCell ⟨g, j, none⟩ x) base t e v vs (rows.set k (us.set j x)) := by
  have ho := h.own k us _ hk hu
  obtain ⟨g, eg, hb, hlt, hc, hf, _, hset⟩ := Own1.at_ ho hj
  subst eg
  have hkl : k < rows.length := (List.getElem?_eq_some_iff.1 hk).1
  refine ⟨g, rfl, hb, hlt, hc, hf, h.out.keep fun b e => blk_other fun e' => h.ne hte hu (b := g) rfl (by rw [e, e']), by simp [h.len], fun i us' u' hi hu' => ?_, h.apart⟩
  by_cases e' : k = i
  · subst e'
    rw [List.getElem?_set, if_pos rfl, if_pos hkl] at hi
    injection hi with hi
    rw [hu] at hu'
    injection hu' with hu'
    subst hi hu'
    have := hset x
    rw [show (Value.slice (some ⟨g, 0, none⟩) us.length c) = .slice (some ⟨g, 0, none⟩) us.length c from rfl] at this
    exact this
  · rw [List.getElem?_set, if_neg e'] at hi
    exact (h.own i us' u' hi hu').keep fun b e => blk_other fun e2 => by
      subst e2
      exact h.apart k i _ u' b e' hu hu' rfl e
/-- one row more -/
theorem Tbl.push (h : Tbl w base t e v vs rows) (hte : t ≠ e) {u : Value} {us : List Value} (hk : ∀ b, b < w.heap.size → v.ownBlock ≠ some b → w'.heap[b]? = w.heap[b]?) (hout : Own1 w' base t v' (vs ++ [u])) (ho : Own1 w' base e u us) (hu : ∀ b, u.ownBlock = some b → w.heap.size ≤ b) :
    Tbl w' base t e v' (vs ++ [u]) (rows ++ [us]) := by
  refine ⟨hout, by simp [h.len], fun k us' x hk' hx => ?_, fun i j x y b hij hx hy hb => ?_⟩
  · rcases Nat.lt_or_ge k vs.length with a | a
    · rw [List.getElem?_append_left a] at hx
      rw [List.getElem?_append_left (by rw [← h.len]; exact a)] at hk'
      exact (h.own k us' x hk' hx).keep fun b e => hk b (h.lt hx e).2.1 (h.ne hte hx e)
    · rw [List.getElem?_append_right a] at hx
      rw [List.getElem?_append_right (by rw [← h.len]; exact a)] at hk'
      have e0 : k - vs.length = 0 := by have := (List.getElem?_eq_some_iff.1 hx).1; simp at this; omega
      rw [← h.len] at hk'
      rw [e0] at hx hk'
      simp at hx hk'
      subst hx hk'
      exact ho
  · have last : ∀ {k : Nat} {z : Value}, (vs ++ [u])[k]? = some z → vs[k]? = some z ∨ (k = vs.length ∧ z = u) := by
      intro k z hz
      rcases Nat.lt_or_ge k vs.length with a | a
      · rw [List.getElem?_append_left a] at hz; exact Or.inl hz
      · rw [List.getElem?_append_right a] at hz
        have e0 : k - vs.length = 0 := by have := (List.getElem?_eq_some_iff.1 hz).1; simp at this; omega
        rw [e0] at hz
        simp at hz
        exact Or.inr ⟨by omega, hz.symm⟩
    rcases last hx with hx' | ⟨ei, ex⟩
    · rcases last hy with hy' | ⟨ej, ey⟩
      · exact h.apart i j x y b hij hx' hy' hb
      · intro e2
        rw [ey] at e2
        have := hu b e2
        have := (h.lt hx' hb).2.1
        omega
    · rcases last hy with hy' | ⟨ej, ey⟩
      · intro e2
        rw [ex] at hb
        have := hu b hb
        have := (h.lt hy' e2).2.1
        omega
      · omega
end
/-- rows of numbers are read as such -/
theorem Tbl.irows {w : World} {base : Nat} {n c : Nat} {A : Option Addr} {vs : List Value} {t : TypeId} {ls : List (List Int)} (h : Tbl w base t 3 (.slice A n c) vs (ls.map ints)) : n = ls.length ∧ IRows w A c ls := by
  obtain ⟨hn, hs⟩ := h.out.sl
  have hl : vs.length = ls.length := by rw [h.len]; simp
  refine ⟨by omega, ⟨fun k xs hk => ?_, by have := hs.cap; omega, hs.top, hs.nil⟩⟩
  have hk' : (ls.map ints)[k]? = some (ints xs) := by rw [List.getElem?_map, hk]; rfl
  obtain ⟨u, hu, ho⟩ := h.at_ hk'
  obtain ⟨A', c', e1, hi⟩ := OwnI.ints ho
  subst e1
  obtain ⟨b, off, eA, hc⟩ := hs.cells k _ hu
  exact ⟨b, off, A', c', eA, hc, hi⟩
theorem Tbl.make {w : World} {base : Nat} {t e : TypeId} (hb : base ≤ w.heap.size) (n : Nat) (hn : n ≤ 1000000) {g : Nat} (hg : w.heap.size = g) :
    Tbl (w.alloc (.cells (Array.replicate n (.slice none 0 0)) t)) base t e (.slice (some ⟨g, 0, none⟩) n n) (List.replicate n (.slice none 0 0)) (List.replicate n []) := by
  refine ⟨Own1.make w base t hb n hn _ hg, by simp, fun k us u hk hu => ?_, fun j k x y b _ hx _ hbx => ?_⟩
  · rw [List.getElem?_replicate] at hk hu
    split at hk
    · rw [if_pos (by assumption)] at hu
      injection hk with hk
      injection hu with hu
      subst hk hu
      exact Own1.nil _ _ _
    · cases hk
  · rw [List.getElem?_replicate] at hx
    split at hx
    · injection hx with hx
      subst hx
      cases hbx
    · cases hx

/-! Are all of them places; rows turned round: areVertices, reverse. -/
open Go.RowKit
set_option linter.unusedVariables false

def okRow (n : Nat) (l : List Int) : Bool := l.all fun x => decide (0 ≤ x ∧ x < (n : Int))
def okAll (E : List (List Int)) : Bool := E.all (okRow E.length)
theorem okAll_iff {E : List (List Int)} : okAll E = true ↔ Valid E := by
  unfold okAll okRow Valid
  simp only [List.all_eq_true, decide_eq_true_eq]
theorem take_succ_some {α : Type} {l : List α} {k : Nat} {x : α} (h : l[k]? = some x) : l.take (k + 1) = l.take k ++ [x] := by rw [List.take_add_one, h]; rfl

set_option maxHeartbeats 1600000 in
theorem areV_any (E : List (List Int)) (w : World) (A : Option Addr) (c : Nat) (h : IRows w A c E) (hn : E.length ≤ 1000000) (r : Bool) (hr : okAll E = r) :
    Calls Tryd.prog 70 #[.slice A E.length c] w fun e w' => e = .returned (.bool r) ∧ w = w' := by
  have H := Lib.hid h; clear h
  have HR := Lib.hid hr; clear hr
  go_enter Tryd.func70, Tryd.ntmps70
  go_wp2
  go_loop [9] (fun i => ∃ k : Nat, k ≤ E.length ∧ i = .int .i64 k ∧ Hid ((E.take k).all (okRow E.length) = true)) (fun i => E.length - (intOf i).toNat)
  case atStart => exact ⟨0, Nat.zero_le _, rfl, Lib.hid (by simp)⟩
  case round =>
    obtain ⟨k, hk, rfl, HT⟩ := hrel
    by_cases hlt : k < E.length
    · obtain ⟨b, off, A', c', xs, rfl, hx, hc, hi⟩ := H.out.at_ hlt
      have HX := Lib.hid hx
      have HI := Lib.hid hi
      have hxl : xs.length ≤ 9223372036854775807 := Nat.le_trans hi.len (by have := Sl.top hi; simpa [maxLen] using this)
      clear hx hi
      go_wp2
      go_loop [15] (fun i => ∃ j : Nat, j ≤ xs.length ∧ i = .int .i64 j ∧ Hid (okRow E.length (xs.take j) = true)) (fun i => xs.length - (intOf i).toNat)
      case atStart => exact ⟨0, Nat.zero_le _, rfl, Lib.hid (by simp [okRow])⟩
      case round =>
        obtain ⟨j, hj, rfl, HT2⟩ := hrel
        by_cases hjl : j < xs.length
        · obtain ⟨b2, off2, x, rfl, hy, hcy⟩ := HI.out.at_ hjl
          have HY := Lib.hid hy; clear hy
          by_cases h0 : x < 0
          · have HF : Hid (r = false) := Lib.hid (by
              rw [← HR.out, Bool.eq_false_iff]; intro hok
              have := (okAll_iff.1 hok) xs (List.mem_of_getElem? HX.out) x (List.mem_of_getElem? HY.out)
              omega)
            go_wp2
            go_ret
            rw [HF.out]
            exact ⟨rfl, rfl⟩
          · by_cases h1 : (E.length : Int) ≤ x
            · have HF : Hid (r = false) := Lib.hid (by
                rw [← HR.out, Bool.eq_false_iff]; intro hok
                have := (okAll_iff.1 hok) xs (List.mem_of_getElem? HX.out) x (List.mem_of_getElem? HY.out)
                omega)
              go_wp2
              go_ret
              rw [HF.out]
              exact ⟨rfl, rfl⟩
            · go_wp2
              go_round
              case rel =>
                refine ⟨j + 1, by omega, by go_num, Lib.hid ?_⟩
                have := HT2.out
                rw [take_succ_some HY.out]
                unfold okRow at this ⊢
                rw [List.all_append, this]
                simp; omega
              case measure => simp [intOf]; omega
        · obtain rfl : j = xs.length := by omega
          go_wp2
          go_round
          case rel =>
            refine ⟨k + 1, by omega, by go_num, Lib.hid ?_⟩
            have h2 := HT2.out
            rw [List.take_length] at h2
            rw [take_succ_some HX.out, List.all_append, HT.out]
            simp [h2]
          case measure => simp [intOf]; omega
    · obtain rfl : k = E.length := by omega
      have HF : Hid (r = true) := Lib.hid (by rw [← HR.out]; have := HT.out; rwa [List.take_length] at this)
      go_wp2
      go_ret
      rw [HF.out]
      exact ⟨rfl, rfl⟩

/-! Rows turned round: reverse. -/
open Go.RowKit
set_option linter.unusedVariables false

def rowsV (n : Nat) (f : Nat → List Nat) : List (List Value) := (List.range n).map fun w => ints (num (f w))
theorem rowsV_get {n w : Nat} (f : Nat → List Nat) (h : w < n) : (rowsV n f)[w]? = some (ints (num (f w))) := range_map_get _ h
theorem rowsV_set {n w : Nat} {f g : Nat → List Nat} (hw : w < n) (h : ∀ i, i < n → i ≠ w → g i = f i) : (rowsV n f).set w (ints (num (g w))) = rowsV n g :=
  range_map_set hw rfl fun i hi hne => by rw [h i hi hne]
theorem rowsV_congr {n : Nat} {f g : Nat → List Nat} (h : ∀ i, i < n → f i = g i) : rowsV n f = rowsV n g :=
  List.map_congr_left fun i hi => by rw [h i (by simpa using hi)]
def revA (E : List (List Int)) (k w : Nat) : List Nat := (List.range k).filter fun v => arc E v w
def revM (E : List (List Int)) (k j w : Nat) : List Nat := revA E k w ++ if (w : Int) ∈ (row E k).take j then [k] else []
theorem revA_lt {E : List (List Int)} {k w v : Nat} (h : v ∈ revA E k w) : v < k := filter_range_lt h
theorem revM_zero (E : List (List Int)) (k : Nat) : revM E k 0 = revA E k := by funext w; simp [revM]
theorem revM_end (E : List (List Int)) (k : Nat) : revM E k (row E k).length = revA E (k + 1) := by
  funext w
  unfold revM revA
  rw [List.take_length, List.range_succ, List.filter_append]
  congr 1
  by_cases h : (w : Int) ∈ row E k
  · have : arc E k w = true := arc_iff.2 h
    simp [h, this]
  · have : arc E k w = false := by rw [Bool.eq_false_iff]; intro e; exact h (arc_iff.1 e)
    simp [h, this]
theorem revA_end (E : List (List Int)) (n : Nat) (hn : n = E.length) : revA E n = behL E := by subst hn; rfl
theorem revM_in {E : List (List Int)} {k j u : Nat} (hx : (row E k)[j]? = some (u : Int)) (hu : (u : Int) ∈ (row E k).take j) : revM E k (j + 1) = revM E k j := by
  funext w
  unfold revM
  rw [take_succ_some hx]
  by_cases e : w = u
  · subst e; simp [hu]
  · have : ¬ ((w : Int) = (u : Int)) := by omega
    simp [this]
theorem revM_out {E : List (List Int)} {k j u : Nat} (hx : (row E k)[j]? = some (u : Int)) (hu : (u : Int) ∉ (row E k).take j) : revM E k (j + 1) u = revM E k j u ++ [k] ∧ ∀ i, i ≠ u → revM E k (j + 1) i = revM E k j i := by
  constructor
  · unfold revM
    rw [take_succ_some hx]
    simp [hu]
  · intro i hi
    unfold revM
    rw [take_succ_some hx]
    have : ¬ ((i : Int) = (u : Int)) := by omega
    simp [this]

theorem ints_get1 (x : Int) : ints [x] = [.int .i64 x] := rfl
theorem num_one (k : Nat) : num [k] = [(k : Int)] := rfl
def RetT (w : World) (n : Nat) (rows : List (List Value)) (e : Ending) (w' : World) : Prop := ∃ A c vs, e = .returned (.slice A n c) ∧ Tbl w' w.heap.size 41 3 (.slice A n c) vs rows ∧ Below w.heap.size w w'

set_option maxRecDepth 100000 in
set_option maxHeartbeats 3200000 in
theorem reverse_any (E : List (List Int)) (w : World) (A : Option Addr) (c : Nat) (h : IRows w A c E) (hn : E.length ≤ 4096) (hE : Valid E) (hlen : ∀ l ∈ E, l.length ≤ 1000000) :
    Calls Tryd.prog 71 #[.slice A E.length c] w (RetT w E.length (rowsV E.length (behL E))) := by
  have H := Lib.hid h; clear h
  have HE := Lib.hid hE; clear hE
  have HL := Lib.hid hlen; clear hlen
  have hmk := fun W : World => run_mk W 66 41 _ 24 Tryd.underlying66 info_is rfl (by decide) E.length (by omega) _ _ rfl rfl
  go_enter Tryd.func71, Tryd.ntmps71
  go_wp2
  have hbm : Below w.heap.size w (w.alloc (.cells (Array.replicate E.length (.slice none 0 0)) 41)) := (Below.refl _ _).alloc (Nat.le_refl _) _
  have htm := Tbl.make (w := w) (base := w.heap.size) (t := 41) (e := 3) (Nat.le_refl _) E.length (by omega) rfl
  have h0 : List.replicate E.length ([] : List Value) = rowsV E.length (revA E 0) := by
    unfold rowsV
    apply List.ext_getElem?
    intro i
    rcases Nat.lt_or_ge i E.length with hi | hi
    · rw [range_map_get _ hi, List.getElem?_replicate, if_pos hi]; rfl
    · rw [List.getElem?_eq_none (by simpa using hi), List.getElem?_eq_none (by simpa using hi)]
  rw [h0] at htm
  have HBM := Lib.hid hbm
  have HTM := Lib.hid htm
  clear hbm htm h0 hmk
  generalize w.alloc (.cells (Array.replicate E.length (.slice none 0 0)) 41) = W0 at HBM HTM ⊢
  generalize eg : w.heap.size = g at HTM ⊢
  have HG := Lib.hid eg
  clear eg
  go_loopw [14] (fun i wr => ∃ (k : Nat) (vs : List Value), k ≤ E.length ∧ i = .int .i64 k ∧ Hid (Tbl wr g 41 3 (.slice (some ⟨g, 0, none⟩) E.length E.length) vs (rowsV E.length (revA E k))) ∧ Hid (Below w.heap.size w wr)) (fun i _ => E.length - (intOf i).toNat)
  case atStart => exact ⟨0, _, Nat.zero_le _, rfl, HTM, HBM⟩
  case round =>
    obtain ⟨k, vs, hk, rfl, HT, HB⟩ := hrel
    by_cases hlt : k < E.length
    · obtain ⟨b, off, A', c', xs, rfl, hx, hc0, hi⟩ := H.out.at_ hlt
      have hc := (HB.out.cell (p := ⟨b, off + k, none⟩) (World.block_lt_of_cell? w _ hc0)).trans hc0
      have hxr := row_some hx
      have hxl := HL.out xs (List.mem_of_getElem? hx)
      subst hxr
      have HI := Lib.hid hi
      clear hx hi hc0
      go_wp2
      go_loopw [21] (fun i wq => ∃ (j : Nat) (vs : List Value), j ≤ (row E k).length ∧ i = .int .i64 j ∧ Hid (Tbl wq g 41 3 (.slice (some ⟨g, 0, none⟩) E.length E.length) vs (rowsV E.length (revM E k j))) ∧ Hid (Below w.heap.size w wq)) (fun i _ => (row E k).length - (intOf i).toNat)
      case atStart => exact ⟨0, vs, Nat.zero_le _, rfl, by rw [revM_zero]; exact HT, HB⟩
      case round =>
        obtain ⟨j, vs2, hj, rfl, HT2, HB2⟩ := hrel
        by_cases hjl : j < (row E k).length
        · obtain ⟨b2, off2, y, rfl, hy, hcy0⟩ := HI.out.at_ hjl
          have hcy := (HB2.out.cell (p := ⟨b2, off2 + j, none⟩) (World.block_lt_of_cell? w _ hcy0)).trans hcy0
          obtain ⟨u, rfl, hul, _⟩ := HE.out.at_ (List.mem_of_getElem? hy)
          obtain ⟨g', A2, c2, eg, _, hglt, hvu, hcu, hfu, hou⟩ := HT2.out.row (rowsV_get _ hul)
          injection eg with eg
          injection eg with eg
          subst eg
          obtain ⟨R, hR⟩ : ∃ R, revM E k j u = R := ⟨_, rfl⟩
          rw [hR] at hou hcu hvu
          rw [ints_len, num_len] at hcu hvu hou
          have HY := Lib.hid hy
          have HVU := Lib.hid hvu
          have HOU := Lib.hid hou
          have hRl : R.length ≤ 4097 := by
            rw [← hR]
            unfold revM revA
            have h1 := List.length_filter_le (fun v => arc E v u) (List.range k)
            rw [List.length_append]
            simp only [List.length_range] at h1
            split <;> simp <;> omega
          clear hy hcy0 hvu hou
          by_cases hin : (u : Int) ∈ (row E k).take j
          · have e1 : R = revA E k u ++ [k] := by rw [← hR]; simp [revM, hin]
            obtain ⟨q, hq⟩ : ∃ q, (revA E k u).length = q := ⟨_, rfl⟩
            have e2 : R.length = q + 1 := by rw [e1]; simp [hq]
            have e3 : (ints (num R))[q]? = some (.int .i64 (k : Int)) := by
              rw [e1, num_app]
              refine ints_get ?_
              rw [List.getElem?_append_right (by rw [num_len]; omega), num_len, hq]
              simp [num]
            obtain ⟨g3, eg3, _, _, hcl, _⟩ := Own1.at_ HOU.out e3
            subst eg3
            rw [e2] at hcu
            have hIN := Lib.hid hin
            have HR3 := Lib.hid hR
            have HQ := Lib.hid e2
            have hqb : q ≤ 4096 := by omega
            clear e1 e2 e3 hq hin hR
            have hqz : ((q : Int) + 1 == 0) = false := by rw [beq_eq_false_iff_ne]; omega
            go_wp2
            go_roundw
            case rel => exact ⟨j + 1, vs2, by omega, by go_num, by rw [revM_in HY.out hIN.out]; exact HT2, HB2⟩
            case measure => simp [intOf]; omega
          · obtain ⟨er1, er2⟩ := revM_out HY.out hin
            rw [hR] at er1
            have ER1 := Lib.hid er1
            have ER2 := Lib.hid er2
            have e1 : R = revA E k u := by rw [← hR]; simp [revM, hin]
            have E1 := Lib.hid e1
            have HR3 := Lib.hid hR
            clear er1 er2 e1 hin hR
            by_cases hR0 : R.length = 0
            · have hR0' : (R.length : Int) = 0 := by omega
              have HR0 := Lib.hid hR0
              have HVU0 : Hid (vs2[u]? = some (.slice A2 0 c2)) := Lib.hid (by rw [← HR0.out]; exact HVU.out)
              rw [hR0] at hcu
              clear hR0 hR0'
              go_wp2_with (at_builtin; refine wpList_appg rfl _ _ 41 3 (.int .i64 0) 8 Tryd.underlying41 info_int rfl (by decide) rfl g (.slice A2 0 c2) (ints (num R)) rfl (by have h9 := HOU.out; rw [HR0.out] at h9; exact h9.below ((Below.refl _ _).alloc (Nat.le_refl _) _)) (some ⟨wr.heap.size, 0, none⟩) 1 1 [.int .i64 (k : Int)] rfl rfl (Sl.one rfl) (by simp [Value.oneCell']) (by rw [ints_len, num_len]; simp; omega) (by simp; omega) ?_; intro l A9 c9 w9 el ho9 hg9 hb9 _; obtain ⟨htb, hcg, hfg, hbw⟩ := Tbl.appended HT2.out (by decide) HVU0.out hg9 ho9 hb9 (by omega); have HTB := Lib.hid htb; have HBW := Lib.hid hbw; have EL := Lib.hid el; clear htb hbw ho9 hg9 hb9 el)
              go_roundw
              case rel =>
                refine ⟨j + 1, vs2.set u (.slice A9 l.length c9), by omega, by go_num, Lib.hid ?_, Lib.hid (HB2.out.trans (by rw [HG.out]; exact HBW.out))⟩
                have e2 : (rowsV E.length (revM E k j)).set u l = rowsV E.length (revM E k (j + 1)) := by
                  rw [EL.out, ← ints_get1, ← num_one, ← ints_app, ← num_app, ← ER1.out]
                  exact rowsV_set hul fun i _ hi => ER2.out i hi
                rw [← e2]
                exact HTB.out
              case measure => simp [intOf]; omega
            · obtain ⟨q, hq⟩ : ∃ q, R.length = q + 1 := ⟨R.length - 1, by omega⟩
              obtain ⟨y, hy⟩ : ∃ y, R[q]? = some y := ⟨_, List.getElem?_eq_getElem (by omega)⟩
              have hyk : y < k := by rw [E1.out] at hy; exact revA_lt (List.mem_of_getElem? hy)
              have e3 : (ints (num R))[q]? = some (.int .i64 (y : Int)) := ints_get (by rw [num_get, hy]; rfl)
              obtain ⟨g3, eg3, _, _, hcl, _⟩ := Own1.at_ HOU.out e3
              subst eg3
              have hyz : ((y : Int) == (k : Int)) = false := by rw [beq_eq_false_iff_ne]; omega
              have hqz : ((q : Int) + 1 == 0) = false := by rw [beq_eq_false_iff_ne]; omega
              have hqb : q ≤ 4096 := by omega
              have HQ := Lib.hid hq
              have HVU0 : Hid (vs2[u]? = some (.slice (some ⟨g3, 0, none⟩) (q + 1) c2)) := Lib.hid (by rw [← HQ.out]; exact HVU.out)
              rw [hq] at hcu
              clear hq hy e3 hR0
              go_wp2_with (at_builtin; refine wpList_appg rfl _ _ 41 3 (.int .i64 0) 8 Tryd.underlying41 info_int rfl (by decide) rfl g (.slice (some ⟨g3, 0, none⟩) (q + 1) c2) (ints (num R)) rfl (by have h9 := HOU.out; rw [HQ.out] at h9; exact h9.below ((Below.refl _ _).alloc (Nat.le_refl _) _)) (some ⟨wr.heap.size, 0, none⟩) 1 1 [.int .i64 (k : Int)] rfl rfl (Sl.one rfl) (by simp [Value.oneCell']) (by rw [ints_len, num_len]; simp; omega) (by simp; omega) ?_; intro l A9 c9 w9 el ho9 hg9 hb9 _; obtain ⟨htb, hcg, hfg, hbw⟩ := Tbl.appended HT2.out (by decide) HVU0.out hg9 ho9 hb9 (by omega); have HTB := Lib.hid htb; have HBW := Lib.hid hbw; have EL := Lib.hid el; clear htb hbw ho9 hg9 hb9 el)
              go_roundw
              case rel =>
                refine ⟨j + 1, vs2.set u (.slice A9 l.length c9), by omega, by go_num, Lib.hid ?_, Lib.hid (HB2.out.trans (by rw [HG.out]; exact HBW.out))⟩
                have e2 : (rowsV E.length (revM E k j)).set u l = rowsV E.length (revM E k (j + 1)) := by
                  rw [EL.out, ← ints_get1, ← num_one, ← ints_app, ← num_app, ← ER1.out]
                  exact rowsV_set hul fun i _ hi => ER2.out i hi
                rw [← e2]
                exact HTB.out
              case measure => simp [intOf]; omega
        · obtain rfl : j = (row E k).length := by omega
          go_wp2
          go_roundw
          case rel => exact ⟨k + 1, vs2, by omega, by go_num, by rw [← revM_end]; exact HT2, HB2⟩
          case measure => simp [intOf]; omega
    · obtain rfl : k = E.length := by omega
      go_wp2
      go_ret
      refine ⟨_, _, vs, rfl, ?_, HB.out⟩
      rw [HG.out]
      have := HT.out
      rw [revA_end E _ rfl] at this
      exact this

end Go.Proofs.YtkicanegjkemoaaDoor.Dag

