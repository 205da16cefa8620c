/- A range over a function whose iterator makes blocks of its own, and reads none of them once a round was made: the rounds may write what they made themselves. -/
import Derived.Test.YtapojmniokdjfaaStpSeq
import Derived.RangeFuncBox
namespace Go.Proofs.Ytapojmniokdjfaa
open Go.RowKit Go.Shelf
open Dag (blk_lt)
set_option linter.unusedVariables false

/-- new blocks don't matter to it -/
def StaysF {α : Type} (J : List α → World → Prop) : Prop := ∀ s X Y, J s X → Below X.heap.size X Y → J s Y
/-- what an iterator owes that reads nothing of its own once a round was made -/
def SeqW {α : Type} (P : Program) (n gf : Nat) (lb : Array Value) (S : List α → Prop) (F : List α → α → Array Value → World → Prop) (K : World → Prop) (w0 : World) : Prop :=
  ∀ (l : Nat) (J Jx : List α → World → Prop) (W : World), Below w0.heap.size w0 W → StaysF J → StaysF Jx → (∀ pre W1, J pre W1 → K W1) →
    (∀ pre x args W1, J pre W1 → F pre x args W1 → YieldAt Fence.wide (n - 1) P l args W1 fun e W' => (e = .returned (.bool true) ∧ J (pre ++ [x]) W') ∨ (e = .returned (.bool false) ∧ Jx (pre ++ [x]) W')) →
    J [] W → CallsIn Fence.wide n P gf (#[.func (.yield l) #[] #[]] ++ lb) W fun e W' => (∃ v, e = .returned v) ∧ ((∃ xs, S xs ∧ J xs W') ∨ ∃ pre, Jx pre W')
theorem SeqW.toB {α : Type} {P : Program} {n gf : Nat} {lb : Array Value} {S : List α → Prop} {F : List α → α → Array Value → World → Prop} {K : World → Prop} {w0 : World} (h : SeqW P n gf lb S F K w0) : SeqB P n gf lb S F K w0 := by
  intro l J Jx W hW hJ hJx hK hY h0
  refine (h l (fun s X => J s X ∧ W.heap.size ≤ X.heap.size) (fun s X => Jx s X ∧ W.heap.size ≤ X.heap.size) W hW (fun s X Y hs hb => ⟨hJ _ _ _ hs.1 (hb.mono hs.2), Nat.le_trans hs.2 hb.size⟩) (fun s X Y hs hb => ⟨hJx _ _ _ hs.1 (hb.mono hs.2), Nat.le_trans hs.2 hb.size⟩)
    (fun pre W1 h1 => hK _ _ h1.1) (fun pre x args W1 h1 h2 => ?_) ⟨h0, Nat.le_refl _⟩).mono ?_
  · obtain ⟨fn, tmps, assign, body, hy, hR⟩ := hY pre x args W1 h1.1 h2
    refine ⟨fn, tmps, assign, body, hy, hR.mono ?_⟩
    rintro e W' (⟨e1, e2, e3⟩ | ⟨e1, e2, e3⟩)
    · exact Or.inl ⟨e1, e2, Nat.le_trans h1.2 e3.size⟩
    · exact Or.inr ⟨e1, e2, Nat.le_trans h1.2 e3.size⟩
  · rintro e W' ⟨h1, ⟨xs, h2, h3⟩ | ⟨pre, h3⟩⟩
    · exact ⟨h1, Or.inl ⟨xs, h2, h3.1⟩⟩
    · exact ⟨h1, Or.inr ⟨pre, h3.1⟩⟩
/-- what the body leaves -/
def bodyW {α : Type} (I : List α → World → Prop) (pre : List α) (W : World) : Exit → Act → World → Prop
  | .normal, _, W' => KeepsOthers W W' ∧ I pre W'
  | _, _, _ => False

theorem range_seqW {α : Type} {P : Program} {g : Operand} {ps : Array Tmp} {assign body : Code} {Q : Exit → Act → World → Prop} {a : Act} {w : World} {n gf : Nat} {lb : Array Value} {S : List α → Prop} {F : List α → α → Array Value → World → Prop} {K : World → Prop} {w0 : World}
    (hg : a.eval g = .func (.func gf) #[] lb) (eg : ∀ args w, (callFunc gf args).run P w = .ok (.enter gf args) w) (hps : ∀ pre x args W, F pre x args W → args.size = ps.size)
    (hseq : SeqW P (n - 1) gf lb S F K w0) (hb0 : Below w0.heap.size w0 w) (hFs : ∀ pre x args X Y, F pre x args X → F pre x args Y)
    (I : List α → World → Prop) (hI : StaysF I) (hIp : ∀ s X l o o', I s X → w.heap.size ≤ l → X.heap[l]? = some o → o.isCells = false → I s (X.putObj l o')) (hK : ∀ pre W, I pre W → K W) (h0 : I [] w) (o : Array Value → Obj) (a₁ : Array Value → Nat → Act)
    (hassign : ∀ (l : Nat) (pre : List α) (x : α) (args : Array Value) (W : World) (K : Act → World → Prop), F pre x args W → K (a₁ args W.heap.size) (W.alloc (o args)) →
      assign.wpIn (Fence.wide.inRound l) (n - 1 - 1) P (Exit.then K (fun _ _ _ => False)) { tmps := (ps.zip args).foldl (fun t (p, v) => t.setIfInBounds p v) a.tmps, defers := [] } W)
    (hbody : ∀ (l : Nat) (pre : List α) (x : α) (args : Array Value) (W : World) (g : Nat), I pre W → F pre x args W → W.heap[g]? = some (o args) → w.heap.size ≤ g → body.wpIn (Fence.wide.inRound l) (n - 1 - 1) P (bodyW I (pre ++ [x]) W) (a₁ args g) W)
    (hdone : ∀ (D : Nat) (xs : List α) (W : World), w.heap.size ≤ D → S xs → I xs W → W.heap[D]? = some (.deferred (some [])) → Q .normal { a with defers := markB D :: a.defers } W) :
    (Code.rangeFunc g ps assign body).wpIn Fence.wide n P Q a w := by
  refine wpIn_rangeFunc fun fn hfn => ?_
  obtain ⟨r, hr⟩ : ∃ r : LoopState → Option Code → Loop, r = recB fn a.tmps ps assign body w.heap.size := ⟨_, rfl⟩
  have hrp : ∀ s p, (r s p).params = ps := by intro s p; rw [hr]; rfl
  have hrf : ∀ s p, (r s p).fn = fn := by intro s p; rw [hr]; rfl
  have hrt : ∀ s p, (r s p).tmps = a.tmps := by intro s p; rw [hr]; rfl
  have hra : ∀ s p, (r s p).assign = assign := by intro s p; rw [hr]; rfl
  have hrb : ∀ s p, (r s p).body = body := by intro s p; rw [hr]; rfl
  have hrs : ∀ s p, (r s p).state = s := by intro s p; rw [hr]; rfl
  have hrq : ∀ s p, (r s p).pending = p := by intro s p; rw [hr]; rfl
  have hru : ∀ s p s', ({ r s p with state := s' } : Loop) = r s' p := by intro s p s'; rw [hr]; rfl
  have hrv : ∀ s p s' p', ({ r s p with state := s', pending := p' } : Loop) = r s' p' := by intro s p s' p'; rw [hr]; rfl
  let l := w.heap.size + 1
  let W1 := (w.alloc (.deferred (some []))).alloc (.loop (r .ready none))
  have hz1 : W1.heap.size = w.heap.size + 2 := by simp [W1]
  have hl1 : W1.heap[l]? = some (.loop (r .ready none)) := by
    have := World.alloc_heap_new (w.alloc (.deferred (some []))) (.loop (r .ready none))
    rwa [World.size_alloc] at this
  have hd1 : W1.heap[w.heap.size]? = some (.deferred (some [])) := (Below.heap_alloc _ _ _ (by simp)).trans (World.alloc_heap_new w _)
  have hbW : Below w.heap.size w W1 := ((Below.refl _ w).alloc (Nat.le_refl _) _).alloc (by simp) _
  have hi1 : I [] W1 := hI _ _ _ (hI _ _ _ h0 ((Below.refl _ w).alloc (Nat.le_refl _) _)) ((Below.refl _ _).alloc (Nat.le_refl _) _)
  have put : ∀ {W : World} {s p} (o : Obj), W.heap[l]? = some (.loop (r s p)) → (W.putObj l o).heap[l]? = some o := fun o h => World.putObj_heap_same (Array.getElem?_eq_some_iff.1 h).1
  have putD : ∀ {W : World} (o : Obj), W.heap[w.heap.size]? = some (.deferred (some [])) → (W.putObj l o).heap[w.heap.size]? = some (.deferred (some [])) := fun o h => (World.putObj_heap_other (by omega)).trans h
  have turn : ∀ {pre W s p} (o : Obj), I pre W → W.heap[l]? = some (.loop (r s p)) → I pre (W.putObj l o) := fun o hi h => hIp _ _ _ _ _ hi (by omega) h rfl
  refine ⟨l, [markB w.heap.size], W1, { target := .fn (.func gf) lb, args := #[.func (.yield l) #[] #[]] }, W1, gf, #[.func (.yield l) #[] #[]] ++ lb, W1, ?_, ?_, fun _ _ => trivial, ?_, (fun h => by cases h), ?_⟩
  · have := run_enterLoop_outer (P := P) (w := w) fn a.tmps ps assign body
    simp only [W1, hr]
    exact this
  · simp only [resolve, hg]
    simp [go_sem]
  · simp [invoke, go_sem, eg]
  · refine (hseq l (fun pre W => I pre W ∧ W.heap[l]? = some (.loop (r .ready none)) ∧ W.heap[w.heap.size]? = some (.deferred (some [])))
      (fun _ _ => False) W1 (hb0.trans (hbW.mono hb0.size))
      (fun s X Y hs hb => ⟨hI _ _ _ hs.1 hb, (hb.block _ (blk_lt hs.2.1)).trans hs.2.1, (hb.block _ (blk_lt hs.2.2)).trans hs.2.2⟩)
      (fun s X Y hs _ => hs)
      (fun pre W h => hK _ _ h.1) ?_ ⟨hi1, hl1, hd1⟩).mono ?_
    · rintro pre x args W ⟨hi, hl, hd⟩ hF
      have hy := run_yield (P := P) (args := args) hl (by rw [hrp]; exact hps _ _ _ _ hF)
      rw [hrp, hrf, hrt, hra, hrb] at hy
      refine ⟨_, _, _, _, hy, roundIn_of_wpIn hfn ?_⟩
      have hln : l < W.heap.size := blk_lt hl
      have hbA : Below W.heap.size W (W.alloc (o args)) := (Below.refl _ _).alloc (Nat.le_refl _) _
      have hlA : (W.alloc (o args)).heap[l]? = some (.loop (r .ready none)) := (hbA.block l hln).trans hl
      have hdA : (W.alloc (o args)).heap[w.heap.size]? = some (.deferred (some [])) := (hbA.block _ (blk_lt hd)).trans hd
      have hiA : I pre (W.alloc (o args)) := hI _ _ _ hi hbA
      have hsA : W.heap.size < (W.alloc (o args)).heap.size := by simp
      have hoA : (W.alloc (o args)).heap[W.heap.size]? = some (o args) := World.alloc_heap_new W _
      have hkA : ∀ k, k < W.heap.size → (W.alloc (o args)).heap[k]? = W.heap[k]? := fun k hk => hbA.block k hk
      have hb := run_beginRound (P := P) hlA (hrs _ _)
      rw [hru] at hb
      refine hassign l pre x args W _ hF ⟨_, hb, ?_⟩
      refine wpIn_mono (hbody l pre x args _ W.heap.size (turn _ hiA hlA) (hFs _ _ _ _ _ hF) ((World.putObj_heap_other (by omega)).trans hoA) (by omega)) ?_
      generalize W.alloc (o args) = WA at hlA hdA hiA hsA hkA ⊢
      have fin : ∀ (W3 : World), KeepsOthers (WA.putObj l (.loop (r .busy none))) W3 →
          (Instr.endRound l none).run P W3 = .ok (.bool true) (W3.putObj l (.loop (r .ready none))) ∧ W3.heap[l]? = some (.loop (r .busy none)) ∧ W3.heap[w.heap.size]? = some (.deferred (some [])) := by
        intro W3 hk
        have h3 := hk.same l _ (put _ hlA) rfl
        have h4 := run_endRound (P := P) none h3
        rw [hrv] at h4
        exact ⟨h4, h3, hk.same _ _ (putD _ hdA) rfl⟩
      rintro e a3 W3 hp
      cases e with
      | normal =>
        obtain ⟨hk, hi3⟩ := hp
        obtain ⟨h4, h3, hd3⟩ := fin W3 hk
        exact ⟨_, _, h4, Or.inl ⟨rfl, turn _ hi3 h3, put _ h3, putD _ hd3⟩⟩
      | ret => exact hp.elim
      | exit id => exact hp.elim
      | goto t => exact hp.elim
      | panic ch => exact hp.elim
      | outgrown => exact hp.elim
    · rintro e W2 ⟨⟨v, rfl⟩, ⟨xs, hS, hi, hl, hd⟩ | ⟨pre, h⟩⟩
      · have h5 := run_endLoop (P := P) hl (by rw [hrs]; simp)
        rw [hrq] at h5
        exact ⟨none, _, h5, hdone _ _ _ (Nat.le_refl _) hS (turn _ hi hl) (putD _ hd)⟩
      · exact h.elim

end Go.Proofs.Ytapojmniokdjfaa

