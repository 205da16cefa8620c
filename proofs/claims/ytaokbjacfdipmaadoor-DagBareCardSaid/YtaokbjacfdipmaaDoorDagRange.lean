/- A range over the numbers of a set: what is owed of the body, what is had behind it. -/
import Derived.Test.YtaokbjacfdipmaaDoorDagIter
import Derived.WalkMore
namespace Go.Proofs.YtaokbjacfdipmaaDoor
open Go.RowKit Go.Shelf
set_option linter.unusedVariables false

/-- the record of the loop -/
def recOf (fn : FuncId) (tmps : Array Value) (ps : Array Tmp) (assign body : Code) (D : Nat) (s : LoopState) (p : Option Code) : Loop :=
  { state := s, pending := p, fn := fn, tmps := tmps, params := ps, assign := assign, body := body, defers := D }
abbrev markD (D : Nat) : Deferred := { target := .collected D, args := #[] }
/-- what the body leaves -/
abbrev bodyEnd (I : List Nat → World → Prop) (Ix : Code → List Nat → World → Prop) (pre : List Nat) (W : World) : Exit → Act → World → Prop := ownPostK (fun _ _ => True) I Ix pre W

theorem range_set {g : Operand} {ps : Array Tmp} {assign body : Code} {Q : Exit → Act → World → Prop} {a : Act} {w : World} {n : Nat} (v : Value) (base N wd : Nat)
    (hg : a.eval g = .func (.func 45) #[v] #[]) (hps : ps.size = 1) (hN : N ≤ 30) (hs : SetAt w base N v wd)
    (I : List Nat → World → Prop) (Ix : Code → List Nat → World → Prop) (hI : OwnFrom w.heap.size I) (hIx : ∀ c, OwnFrom w.heap.size (Ix c)) (hT : ∀ pre W, I pre W → Tab W) (h0 : I [] w) (a₁ : Nat → Act)
    (hassign : ∀ (l x : Nat) (W : World) (K : Act → World → Prop), K (a₁ x) W →
      assign.wpIn (Fence.wide.inRound l) (n - 1 - 1) Tryd.prog (Exit.then K (fun _ _ _ => False)) { tmps := (ps.zip #[Value.int .i64 (x : Int)]).foldl (fun t (p, v) => t.setIfInBounds p v) a.tmps, defers := [] } W)
    (hbody : ∀ (l : Nat) (pre : List Nat) (x : Nat) (W : World), I pre W → (∃ post, bitsL N wd = pre ++ x :: post) → body.wpIn (Fence.wide.inRound l) (n - 1 - 1) Tryd.prog (bodyEnd I Ix (pre ++ [x]) W) (a₁ x) W)
    (hdone : ∀ (D : Nat) (W : World), w.heap.size ≤ D → I (bitsL N wd) W → W.heap[D]? = some (.deferred (some [])) → Q .normal { a with defers := markD D :: a.defers } W)
    (hstop : ∀ (D : Nat) (c : Code) (pre : List Nat) (W : World), w.heap.size ≤ D → Ix c pre W → W.heap[D]? = some (.deferred (some [])) → c.wpIn Fence.wide n Tryd.prog Q { a with defers := markD D :: a.defers } W) :
    (Code.rangeFunc g ps assign body).wpIn Fence.wide n Tryd.prog Q a w := by
  refine wpIn_rangeFunc fun fn hfn => ?_
  obtain ⟨r, hr⟩ : ∃ r : LoopState → Option Code → Loop, r = recOf fn a.tmps ps assign body w.heap.size := ⟨_, rfl⟩
  have hrp : ∀ s p, (r s p).params = ps := by intro s p; rw [hr]; rfl
  have hrf : ∀ s p, (r s p).fn = fn := by intro s p; rw [hr]; rfl
  have hrt : ∀ s p, (r s p).tmps = a.tmps := by intro s p; rw [hr]; rfl
  have hra : ∀ s p, (r s p).assign = assign := by intro s p; rw [hr]; rfl
  have hrb : ∀ s p, (r s p).body = body := by intro s p; rw [hr]; rfl
  have hrs : ∀ s p, (r s p).state = s := by intro s p; rw [hr]; rfl
  have hrq : ∀ s p, (r s p).pending = p := by intro s p; rw [hr]; rfl
  have hru : ∀ s p s', ({ r s p with state := s' } : Loop) = r s' p := by intro s p s'; rw [hr]; rfl
  have hrv : ∀ s p s' p', ({ r s p with state := s', pending := p' } : Loop) = r s' p' := by intro s p s' p'; rw [hr]; rfl
  let l := w.heap.size + 1
  let W1 := (w.alloc (.deferred (some []))).alloc (.loop (r .ready none))
  have hl1 : W1.heap[l]? = some (.loop (r .ready none)) := by
    have := World.alloc_heap_new (w.alloc (.deferred (some []))) (.loop (r .ready none))
    rwa [World.size_alloc] at this
  have hd1 : W1.heap[w.heap.size]? = some (.deferred (some [])) := (Below.heap_alloc _ _ _ (by simp)).trans (World.alloc_heap_new w _)
  have hi1 : I [] W1 := hI.alloc _ (hI.alloc _ h0)
  have hs1 : SetAt W1 base N v wd := hs.below (((Below.refl _ w).alloc (Nat.le_refl _) _).alloc (by simp) _)
  have turn : ∀ {pre W s p} (o : Obj), I pre W → W.heap[l]? = some (.loop (r s p)) → I pre (W.putObj l o) := fun o hi h => hI.putObj o hi (by omega) h rfl
  have turnx : ∀ {c pre W s p} (o : Obj), Ix c pre W → W.heap[l]? = some (.loop (r s p)) → Ix c pre (W.putObj l o) := fun {c} {_} {_} {_} {_} o hi h => (hIx c).putObj o hi (by omega) h rfl
  have put : ∀ {W : World} {s p} (o : Obj), W.heap[l]? = some (.loop (r s p)) → (W.putObj l o).heap[l]? = some o := fun o h => World.putObj_heap_same (Array.getElem?_eq_some_iff.1 h).1
  have putD : ∀ {W : World} (o : Obj), W.heap[w.heap.size]? = some (.deferred (some [])) → (W.putObj l o).heap[w.heap.size]? = some (.deferred (some [])) := fun o h => (World.putObj_heap_other (by omega)).trans h
  refine ⟨l, [markD w.heap.size], W1, { target := .fn (.func 45) #[], args := #[v, .func (.yield l) #[] #[]] }, W1, 45, #[v, .func (.yield l) #[] #[]], W1, ?_, ?_, fun _ _ => trivial, ?_, (fun h => by cases h), ?_⟩
  · have := run_enterLoop_outer (P := Tryd.prog) (w := w) fn a.tmps ps assign body
    simp only [W1, hr]
    exact this
  · simp only [resolve, hg]
    simp [go_sem]
  · simp [invoke, go_sem]
  · refine (all_in (n - 1) l N v base wd (fun pre W => I pre W ∧ W.heap[l]? = some (.loop (r .ready none)) ∧ W.heap[w.heap.size]? = some (.deferred (some [])))
      (fun pre W => ∃ c, Ix c pre W ∧ W.heap[l]? = some (.loop (r .done (some c))) ∧ W.heap[w.heap.size]? = some (.deferred (some []))) W1 hN (fun pre W h => hT pre W h.1) ?_ hs1 ⟨hi1, hl1, hd1⟩).mono ?_
    · rintro pre x W ⟨hi, hl, hd⟩ hpost
      have hy := run_yield (P := Tryd.prog) (args := #[Value.int .i64 (x : Int)]) hl (by rw [hrp, hps]; rfl)
      have hb := run_beginRound (P := Tryd.prog) hl (hrs _ _)
      rw [hru] at hb
      rw [hrp, hrf, hrt, hra, hrb] at hy
      refine ⟨_, _, _, _, hy, roundIn_of_wpIn hfn ?_⟩
      refine hassign l x W _ ⟨_, hb, ?_⟩
      refine wpIn_mono (hbody l pre x _ (turn _ hi hl) hpost) ?_
      have fin : ∀ (jump : Option Code) (W3 : World), KeepsOthers (W.putObj l (.loop (r .busy none))) W3 →
          (Instr.endRound l jump).run Tryd.prog W3 = .ok (.bool jump.isNone) (W3.putObj l (.loop (r (if jump.isNone then .ready else .done) jump))) ∧ W3.heap[l]? = some (.loop (r .busy none)) ∧ W3.heap[w.heap.size]? = some (.deferred (some [])) := by
        intro jump W3 hk
        have h3 := hk.same l _ (put _ hl) rfl
        have h4 := run_endRound (P := Tryd.prog) jump h3
        rw [hrv] at h4
        exact ⟨h4, h3, hk.same _ _ (putD _ hd) rfl⟩
      rintro e a3 W3 hp
      cases e with
      | normal =>
        obtain ⟨hk, _, hi3⟩ := hp
        obtain ⟨h4, h3, hd3⟩ := fin none W3 hk
        exact ⟨_, _, h4, Or.inl ⟨rfl, turn _ hi3 h3, put _ h3, putD _ hd3⟩⟩
      | ret =>
        obtain ⟨hk, hi3⟩ := hp
        obtain ⟨h4, h3, hd3⟩ := fin (some .ret) W3 hk
        exact ⟨_, _, h4, Or.inr ⟨rfl, .ret, turnx _ hi3 h3, put _ h3, putD _ hd3⟩⟩
      | exit id =>
        obtain ⟨hk, hi3⟩ := hp
        obtain ⟨h4, h3, hd3⟩ := fin (some (.exit id)) W3 hk
        exact ⟨_, _, h4, Or.inr ⟨rfl, .exit id, turnx _ hi3 h3, put _ h3, putD _ hd3⟩⟩
      | goto t =>
        obtain ⟨hk, hi3⟩ := hp
        obtain ⟨h4, h3, hd3⟩ := fin (some (.goto t)) W3 hk
        exact ⟨_, _, h4, Or.inr ⟨rfl, .goto t, turnx _ hi3 h3, put _ h3, putD _ hd3⟩⟩
      | panic ch => exact hp.elim
      | outgrown => exact hp.elim
    · rintro e W2 ⟨⟨v, rfl⟩, ⟨hi, hl, hd⟩ | ⟨pre, c, hi, hl, hd⟩⟩
      · have h5 := run_endLoop (P := Tryd.prog) hl (by rw [hrs]; simp)
        rw [hrq] at h5
        exact ⟨none, _, h5, hdone _ _ (Nat.le_refl _) (turn _ hi hl) (putD _ hd)⟩
      · have h5 := run_endLoop (P := Tryd.prog) hl (by rw [hrs]; simp)
        rw [hrq] at h5
        exact ⟨some c, _, h5, hstop _ c pre _ (Nat.le_refl _) (turnx _ hi hl) (putD _ hd)⟩

/-- a body with a label, which no goto leaves -/
theorem wpIn_scope {F : Fence} {n : Nat} {P : Program} {c : Code} {Q : Exit → Act → World → Prop} {a : Act} {w : World} (h : c.wpIn F n P (Exit.noGoto Q) a w) : (Code.scope c).wpIn F n P Q a w := by
  intro b k cs hro hb hr
  have s1 : StepsIn (Machine.fenced P F) P (lone (b.atR a (.code (.scope c) :: k)) cs w) (lone (b.atR a (.code c :: .inScope c :: k)) cs w) :=
    .one (fenced_calm hb hr rfl) (step_lone_go (by simp [stepG, stepG.exec, Frame.atR]))
  have s2 : ∀ a' w', StepsIn (Machine.fenced P F) P (lone (b.atR a' (.inScope c :: k)) cs w') (lone (b.atR a' k) cs w') := fun a' w' =>
    .one (fenced_calm hb hr rfl) (step_lone_go (by simp [stepG, stepG.exec, Frame.atR]))
  obtain ⟨e, a', w', hq, harr⟩ := h b (.inScope c :: k) cs hro hb hr
  cases e with
  | normal => exact ⟨.normal, a', w', hq, StepsIn.trans s1 (StepsIn.trans harr (s2 a' w'))⟩
  | exit id =>
    have hx : exitTo id (.inScope c :: k) = exitTo id k := by simp [exitTo]
    exact ⟨.exit id, a', w', hq, (fun k' hk => StepsIn.trans s1 (harr.1 k' (by rw [hx]; exact hk))), fun hr' hk => let ⟨k1, q1, q2⟩ := harr.2 hr' (by rw [hx]; exact hk); ⟨k1, q1, StepsIn.trans s1 q2⟩⟩
  | goto l => exact hq.elim
  | ret => exact ⟨_, a', w', hq, .of_steps s1 harr⟩
  | panic ch => exact ⟨_, a', w', hq, .of_steps s1 harr⟩
  | outgrown => exact ⟨_, a', w', hq, .of_steps s1 harr⟩

/-- marks alone are left of the calls to be made at the end -/
def Marks (W : World) (ds : List Nat) : Prop := ds.Nodup ∧ ∀ D ∈ ds, W.heap[D]? = some (.deferred (some []))
theorem leaves_marks {F : Fence} {n : Nat} {P : Program} {fn : Func} {tmps : Array Value} {R : Ending → World → Prop} {base : Nat} : ∀ (ds : List Nat) (W : World), Marks W ds → (∀ D ∈ ds, base ≤ D) →
    (∀ W', Below base W W' → (∀ k, (∀ D ∈ ds, k ≠ D) → W'.heap[k]? = W.heap[k]?) → W'.heap.size = W.heap.size → LeavesIn F n P fn tmps R [] .returning W') →
    LeavesInM F n P fn tmps R (ds.map markD) .returning W
  | [], W, _, _, h => by
    simp only [List.map_nil, LeavesInM]
    exact h W (Below.refl _ _) (fun _ _ => rfl) rfl
  | D :: ds, W, hm, hb, h => by
    have hD := hm.2 D (by simp)
    have hnd := List.nodup_cons.1 hm.1
    have hbD : base ≤ D := hb D (by simp)
    have hB : Below base W (W.putObj D (.deferred none)) := (Below.refl base W).grown (grownBy_putObj' W D _) (Nat.le_trans hbD (Nat.le_of_lt (blk_lt hD))) (fun k e => by cases e; exact hbD)
    simp only [List.map_cons, LeavesInM]
    refine ⟨by simp, Or.inl ⟨D, _, rfl, run_takeDeferred hD, ?_⟩⟩
    refine leaves_marks ds _ ⟨hnd.2, fun D' hD' => ?_⟩ (fun D' hD' => hb D' (by simp [hD'])) fun W' hB' hk hsz => ?_
    · have hne : D' ≠ D := fun e => hnd.1 (by rw [← e]; exact hD')
      exact (World.putObj_heap_other hne).trans (hm.2 D' (by simp [hD']))
    · refine h W' (hB.trans hB') (fun k hne => ?_) (by rw [hsz]; simp)
      rw [hk k (fun D' hD' => hne D' (by simp [hD']))]
      exact World.putObj_heap_other (hne D (by simp))

end Go.Proofs.YtaokbjacfdipmaaDoor
