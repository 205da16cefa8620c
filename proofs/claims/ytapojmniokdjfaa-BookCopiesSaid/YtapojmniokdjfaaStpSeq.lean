/- A range over a function whose rounds begin with a block of their own (the range variable's): range_seqB for these. -/
import Derived.Test.YtapojmniokdjfaaRnkSeq
namespace Go.Proofs.Ytapojmniokdjfaa
open Go.RowKit Go.Shelf
open Dag (blk_lt)
set_option linter.unusedVariables false

theorem range_seqA {α : Type} {P : Program} {g : Operand} {ps : Array Tmp} {assign body : Code} {Q : Exit → Act → World → Prop} {a : Act} {w : World} {n gf : Nat} {lb : Array Value} {S : List α → Prop} {F : List α → α → Array Value → World → Prop} {K : World → Prop} {w0 : World}
    (hg : a.eval g = .func (.func gf) #[] lb) (eg : ∀ args w, (callFunc gf args).run P w = .ok (.enter gf args) w) (hps : ∀ pre x args W, F pre x args W → args.size = ps.size)
    (hseq : SeqB P (n - 1) gf lb S F K w0) (hb0 : Below w0.heap.size w0 w) (hFs : ∀ pre x args X Y, F pre x args X → F pre x args Y)
    (I : List α → World → Prop) (Ix : Code → List α → World → Prop) (hI : Stays w.heap.size I) (hIx : ∀ c, Stays w.heap.size (Ix c)) (hK : ∀ pre W, I pre W → K W) (h0 : I [] w) (o : Array Value → Obj) (a₁ : Array Value → Nat → Act)
    (hassign : ∀ (l : Nat) (pre : List α) (x : α) (args : Array Value) (W : World) (K : Act → World → Prop), F pre x args W → K (a₁ args W.heap.size) (W.alloc (o args)) →
      assign.wpIn (Fence.wide.inRound l) (n - 1 - 1) P (Exit.then K (fun _ _ _ => False)) { tmps := (ps.zip args).foldl (fun t (p, v) => t.setIfInBounds p v) a.tmps, defers := [] } W)
    (hbody : ∀ (l : Nat) (pre : List α) (x : α) (args : Array Value) (W : World) (g : Nat), I pre W → F pre x args W → W.heap[g]? = some (o args) → w.heap.size ≤ g → body.wpIn (Fence.wide.inRound l) (n - 1 - 1) P (bodyB w.heap.size I Ix (pre ++ [x]) W) (a₁ args g) W)
    (hdone : ∀ (D : Nat) (xs : List α) (W : World), w.heap.size ≤ D → S xs → I xs W → W.heap[D]? = some (.deferred (some [])) → Q .normal { a with defers := markB D :: a.defers } W)
    (hstop : ∀ (D : Nat) (c : Code) (pre : List α) (W : World), w.heap.size ≤ D → Ix c pre W → W.heap[D]? = some (.deferred (some [])) → c.wpIn Fence.wide n P Q { a with defers := markB D :: a.defers } W) :
    (Code.rangeFunc g ps assign body).wpIn Fence.wide n P Q a w := by
  refine wpIn_rangeFunc fun fn hfn => ?_
  obtain ⟨r, hr⟩ : ∃ r : LoopState → Option Code → Loop, r = recB fn a.tmps ps assign body w.heap.size := ⟨_, rfl⟩
  have hrp : ∀ s p, (r s p).params = ps := by intro s p; rw [hr]; rfl
  have hrf : ∀ s p, (r s p).fn = fn := by intro s p; rw [hr]; rfl
  have hrt : ∀ s p, (r s p).tmps = a.tmps := by intro s p; rw [hr]; rfl
  have hra : ∀ s p, (r s p).assign = assign := by intro s p; rw [hr]; rfl
  have hrb : ∀ s p, (r s p).body = body := by intro s p; rw [hr]; rfl
  have hrs : ∀ s p, (r s p).state = s := by intro s p; rw [hr]; rfl
  have hrq : ∀ s p, (r s p).pending = p := by intro s p; rw [hr]; rfl
  have hru : ∀ s p s', ({ r s p with state := s' } : Loop) = r s' p := by intro s p s'; rw [hr]; rfl
  have hrv : ∀ s p s' p', ({ r s p with state := s', pending := p' } : Loop) = r s' p' := by intro s p s' p'; rw [hr]; rfl
  let l := w.heap.size + 1
  let W1 := (w.alloc (.deferred (some []))).alloc (.loop (r .ready none))
  have hz1 : W1.heap.size = w.heap.size + 2 := by simp [W1]
  have hl1 : W1.heap[l]? = some (.loop (r .ready none)) := by
    have := World.alloc_heap_new (w.alloc (.deferred (some []))) (.loop (r .ready none))
    rwa [World.size_alloc] at this
  have hd1 : W1.heap[w.heap.size]? = some (.deferred (some [])) := (Below.heap_alloc _ _ _ (by simp)).trans (World.alloc_heap_new w _)
  have hbW : Below w.heap.size w W1 := ((Below.refl _ w).alloc (Nat.le_refl _) _).alloc (by simp) _
  have hi1 : I [] W1 := hI _ _ _ h0 hbW
  have put : ∀ {W : World} {s p} (o : Obj), W.heap[l]? = some (.loop (r s p)) → (W.putObj l o).heap[l]? = some o := fun o h => World.putObj_heap_same (Array.getElem?_eq_some_iff.1 h).1
  have putD : ∀ {W : World} (o : Obj), W.heap[w.heap.size]? = some (.deferred (some [])) → (W.putObj l o).heap[w.heap.size]? = some (.deferred (some [])) := fun o h => (World.putObj_heap_other (by omega)).trans h
  have turn : ∀ {pre W s p} (o : Obj), I pre W → W.heap[l]? = some (.loop (r s p)) → I pre (W.putObj l o) := fun o hi h => hI _ _ _ hi (below_put _ _ (by omega) (blk_lt h))
  have turnx : ∀ {c pre W s p} (o : Obj), Ix c pre W → W.heap[l]? = some (.loop (r s p)) → Ix c pre (W.putObj l o) := fun {c} {_} {_} {_} {_} o hi h => hIx c _ _ _ hi (below_put _ _ (by omega) (blk_lt h))
  refine ⟨l, [markB w.heap.size], W1, { target := .fn (.func gf) lb, args := #[.func (.yield l) #[] #[]] }, W1, gf, #[.func (.yield l) #[] #[]] ++ lb, W1, ?_, ?_, fun _ _ => trivial, ?_, (fun h => by cases h), ?_⟩
  · have := run_enterLoop_outer (P := P) (w := w) fn a.tmps ps assign body
    simp only [W1, hr]
    exact this
  · simp only [resolve, hg]
    simp [go_sem]
  · simp [invoke, go_sem, eg]
  · refine (hseq l (fun pre W => I pre W ∧ W.heap[l]? = some (.loop (r .ready none)) ∧ W.heap[w.heap.size]? = some (.deferred (some [])))
      (fun pre W => ∃ c, Ix c pre W ∧ W.heap[l]? = some (.loop (r .done (some c))) ∧ W.heap[w.heap.size]? = some (.deferred (some []))) W1 (hb0.trans (hbW.mono hb0.size))
      (fun s X Y hs hb => ⟨hI _ _ _ hs.1 (hb.mono (by omega)), (hb.block _ (by omega)).trans hs.2.1, (hb.block _ (by omega)).trans hs.2.2⟩)
      (fun s X Y hs hb => by
        obtain ⟨c, h1, h2, h3⟩ := hs
        exact ⟨c, hIx c _ _ _ h1 (hb.mono (by omega)), (hb.block _ (by omega)).trans h2, (hb.block _ (by omega)).trans h3⟩)
      (fun pre W h => hK _ _ h.1) ?_ ⟨hi1, hl1, hd1⟩).mono ?_
    · rintro pre x args W ⟨hi, hl, hd⟩ hF
      have hy := run_yield (P := P) (args := args) hl (by rw [hrp]; exact hps _ _ _ _ hF)
      rw [hrp, hrf, hrt, hra, hrb] at hy
      refine ⟨_, _, _, _, hy, roundIn_of_wpIn hfn ?_⟩
      have hln : l < W.heap.size := blk_lt hl
      have hbA : Below W.heap.size W (W.alloc (o args)) := (Below.refl _ _).alloc (Nat.le_refl _) _
      have hlA : (W.alloc (o args)).heap[l]? = some (.loop (r .ready none)) := (hbA.block l hln).trans hl
      have hdA : (W.alloc (o args)).heap[w.heap.size]? = some (.deferred (some [])) := (hbA.block _ (blk_lt hd)).trans hd
      have hiA : I pre (W.alloc (o args)) := hI _ _ _ hi (hbA.mono (by omega))
      have hsA : W.heap.size < (W.alloc (o args)).heap.size := by simp
      have hoA : (W.alloc (o args)).heap[W.heap.size]? = some (o args) := World.alloc_heap_new W _
      have hkA : ∀ k, k < W.heap.size → (W.alloc (o args)).heap[k]? = W.heap[k]? := fun k hk => hbA.block k hk
      have hb := run_beginRound (P := P) hlA (hrs _ _)
      rw [hru] at hb
      refine hassign l pre x args W _ hF ⟨_, hb, ?_⟩
      refine wpIn_mono (hbody l pre x args _ W.heap.size (turn _ hiA hlA) (hFs _ _ _ _ _ hF) ((World.putObj_heap_other (by omega)).trans hoA) (by omega)) ?_
      generalize W.alloc (o args) = WA at hlA hdA hiA hsA hkA ⊢
      have ab : ∀ {W3 : World} (o : Obj), Above w.heap.size (WA.putObj l (.loop (r .busy none))) W3 → W3.heap[l]? = some (.loop (r .busy none)) → Above W1.heap.size W (W3.putObj l o) := fun {W3} o hk h3 => by
        have hs3 := hk.size
        simp at hs3
        refine ⟨by simp; omega, fun k h1 h2 => ?_⟩
        have hne : k ≠ l := by omega
        rw [World.putObj_heap_other hne, hk.block k (by omega) (by simp; omega), World.putObj_heap_other hne, hkA k h2]
      have fin : ∀ (jump : Option Code) (W3 : World), Above w.heap.size (WA.putObj l (.loop (r .busy none))) W3 →
          (Instr.endRound l jump).run P W3 = .ok (.bool jump.isNone) (W3.putObj l (.loop (r (if jump.isNone then .ready else .done) jump))) ∧ W3.heap[l]? = some (.loop (r .busy none)) ∧ W3.heap[w.heap.size]? = some (.deferred (some [])) := by
        intro jump W3 hk
        have h3 := hk.at_ (k := l) (by omega) (put _ hlA)
        have h4 := run_endRound (P := P) jump h3
        rw [hrv] at h4
        exact ⟨h4, h3, hk.at_ (Nat.le_refl _) (putD _ hdA)⟩
      rintro e a3 W3 hp
      cases e with
      | normal =>
        obtain ⟨hk, hi3⟩ := hp
        obtain ⟨h4, h3, hd3⟩ := fin none W3 hk
        exact ⟨_, _, h4, Or.inl ⟨rfl, ⟨turn _ hi3 h3, put _ h3, putD _ hd3⟩, ab _ hk h3⟩⟩
      | ret =>
        obtain ⟨hk, hi3⟩ := hp
        obtain ⟨h4, h3, hd3⟩ := fin (some .ret) W3 hk
        exact ⟨_, _, h4, Or.inr ⟨rfl, ⟨.ret, turnx _ hi3 h3, put _ h3, putD _ hd3⟩, ab _ hk h3⟩⟩
      | exit id =>
        obtain ⟨hk, hi3⟩ := hp
        obtain ⟨h4, h3, hd3⟩ := fin (some (.exit id)) W3 hk
        exact ⟨_, _, h4, Or.inr ⟨rfl, ⟨.exit id, turnx _ hi3 h3, put _ h3, putD _ hd3⟩, ab _ hk h3⟩⟩
      | goto t =>
        obtain ⟨hk, hi3⟩ := hp
        obtain ⟨h4, h3, hd3⟩ := fin (some (.goto t)) W3 hk
        exact ⟨_, _, h4, Or.inr ⟨rfl, ⟨.goto t, turnx _ hi3 h3, put _ h3, putD _ hd3⟩, ab _ hk h3⟩⟩
      | panic ch => exact hp.elim
      | outgrown => exact hp.elim
    · rintro e W2 ⟨⟨v, rfl⟩, ⟨xs, hS, hi, hl, hd⟩ | ⟨pre, c, hi, hl, hd⟩⟩
      · have h5 := run_endLoop (P := P) hl (by rw [hrs]; simp)
        rw [hrq] at h5
        exact ⟨none, _, h5, hdone _ _ _ (Nat.le_refl _) hS (turn _ hi hl) (putD _ hd)⟩
      · have h5 := run_endLoop (P := P) hl (by rw [hrs]; simp)
        rw [hrq] at h5
        exact ⟨some c, _, h5, hstop _ c pre _ (Nat.le_refl _) (turnx _ hi hl) (putD _ hd)⟩

end Go.Proofs.Ytapojmniokdjfaa

