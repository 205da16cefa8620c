/- A range over a function whose iterator makes blocks of its own: what the iterator gives, what is owed of the body. -/
import Derived.Test.YtapojmniokdjfaaDagB
import Derived.RangeFuncNested
import Derived.RangeFuncBound
import Derived.RangeFuncCalls
import Derived.RangeFuncLeaves
import Derived.WalkMore
import Derived.Shelf.Abstract
import Derived.OwnWalkIn
import Derived.TacticsInMore
import Derived.LoopNIn
import Derived.LoopIn
namespace Go.Proofs.Ytapojmniokdjfaa
open Go.RowKit Go.Shelf
open Dag (blk_lt)
set_option linter.unusedVariables false

/-- what lies from B on is left as it lies -/
structure Above (B : Nat) (w w' : World) : Prop where
  size : w.heap.size ≤ w'.heap.size
  block : ∀ k, B ≤ k → k < w.heap.size → w'.heap[k]? = w.heap[k]?
theorem Above.refl (B : Nat) (w : World) : Above B w w := ⟨Nat.le_refl _, fun _ _ _ => rfl⟩
theorem Above.trans {B : Nat} {a b c : World} (h : Above B a b) (k : Above B b c) : Above B a c := ⟨Nat.le_trans h.size k.size, fun i h1 h2 => (k.block i h1 (Nat.lt_of_lt_of_le h2 h.size)).trans (h.block i h1 h2)⟩
theorem Above.mono {B B' : Nat} {a b : World} (h : Above B a b) (hB : B ≤ B') : Above B' a b := ⟨h.size, fun i h1 h2 => h.block i (Nat.le_trans hB h1) h2⟩
theorem Above.of_below {B : Nat} {a b : World} (h : Below a.heap.size a b) : Above B a b := ⟨h.size, fun i _ h2 => h.block i h2⟩
theorem Above.setCell {B : Nat} {a b : World} (h : Above B a b) {p : Addr} (hp : p.block < B) (u : Value) : Above B a (b.setCell p u) :=
  h.trans ⟨by simp [World.setCell], fun i h1 _ => Below.heap_setCell _ _ _ _ (by omega)⟩
theorem Above.at_ {B k : Nat} {a b : World} {o : Obj} (h : Above B a b) (hB : B ≤ k) (ho : a.heap[k]? = some o) : b.heap[k]? = some o := (h.block k hB (blk_lt ho)).trans ho
/-- it does not mind what is done from B on -/
def Stays {α : Type} (B : Nat) (J : List α → World → Prop) : Prop := ∀ s X Y, J s X → Below B X Y → J s Y
theorem below_put {B l : Nat} (W : World) (o : Obj) (hB : B ≤ l) (hl : l < W.heap.size) : Below B W (W.putObj l o) :=
  (Below.refl B W).grown (grownBy_putObj' W l o) (by omega) (fun k e => by cases e; exact hB)
/-- cells stay -/
def Cel (X Y : World) : Prop := ∀ (k : Nat) (o : Obj), X.heap[k]? = some o → o.isCells = true → Y.heap[k]? = some o
theorem cel_put {W : World} {l : Nat} {o : Obj} (o' : Obj) (hl : W.heap[l]? = some o) (ho : o.isCells = false) : Cel W (W.putObj l o') := fun k q hk hq => by
  by_cases e : k = l
  · subst e; rw [hl] at hk; injection hk with hk; subst hk; rw [ho] at hq; cases hq
  · exact (World.putObj_heap_other e).trans hk

/-- what an iterator owes: the round leaves alone what lies from the call on; the iterator leaves alone what lay ahead of it -/
def SeqB {α : Type} (P : Program) (n gf : Nat) (lb : Array Value) (S : List α → Prop) (F : List α → α → Array Value → World → Prop) (K : World → Prop) (w0 : World) : Prop :=
  ∀ (l : Nat) (J Jx : List α → World → Prop) (W : World), Below w0.heap.size w0 W → Stays W.heap.size J → Stays W.heap.size Jx → (∀ pre W1, J pre W1 → K W1) →
    (∀ pre x args W1, J pre W1 → F pre x args W1 → YieldAt Fence.wide (n - 1) P l args W1 fun e W' => (e = .returned (.bool true) ∧ J (pre ++ [x]) W' ∧ Above W.heap.size W1 W') ∨ (e = .returned (.bool false) ∧ Jx (pre ++ [x]) W' ∧ Above W.heap.size W1 W')) →
    J [] W → CallsIn Fence.wide n P gf (#[.func (.yield l) #[] #[]] ++ lb) W fun e W' => (∃ v, e = .returned v) ∧ ((∃ xs, S xs ∧ J xs W') ∨ ∃ pre, Jx pre W')

theorem round_any {P : Program} {n n' l l2 : Nat} {f : FuncId} {tmps : Array Value} {assign body : Code} {w : World} {R R' : Ending → World → Prop} (h : RoundIn Fence.wide n P l f tmps assign body w R) (hr : ∀ e w', R e w' → R' e w') : RoundIn (Fence.wide.inRound l2) n' P l f tmps assign body w R' :=
  ⟨trivial, fun c cs _ => let ⟨e, w', r, s⟩ := h.2 c cs (room_wide _); ⟨e, w', hr _ _ r, s⟩⟩
/-- the record of the loop -/
def recB (fn : FuncId) (tmps : Array Value) (ps : Array Tmp) (assign body : Code) (D : Nat) (s : LoopState) (p : Option Code) : Loop :=
  { state := s, pending := p, fn := fn, tmps := tmps, params := ps, assign := assign, body := body, defers := D }
abbrev markB (D : Nat) : Deferred := { target := .collected D, args := #[] }
/-- what the body leaves -/
def bodyB {α : Type} (B : Nat) (I : List α → World → Prop) (Ix : Code → List α → World → Prop) (pre : List α) (W : World) : Exit → Act → World → Prop
  | .normal, _, W' => Above B W W' ∧ I pre W'
  | .ret, _, W' => Above B W W' ∧ Ix .ret pre W'
  | .exit id, _, W' => Above B W W' ∧ Ix (.exit id) pre W'
  | .goto t, _, W' => Above B W W' ∧ Ix (.goto t) pre W'
  | .panic _, _, _ => False
  | .outgrown, _, _ => False

theorem range_seqB {α : Type} {P : Program} {g : Operand} {ps : Array Tmp} {assign body : Code} {Q : Exit → Act → World → Prop} {a : Act} {w : World} {n gf : Nat} {lb : Array Value} {S : List α → Prop} {F : List α → α → Array Value → World → Prop} {K : World → Prop} {w0 : World}
    (hg : a.eval g = .func (.func gf) #[] lb) (eg : ∀ args w, (callFunc gf args).run P w = .ok (.enter gf args) w) (hps : ∀ pre x args W, F pre x args W → args.size = ps.size)
    (hseq : SeqB P (n - 1) gf lb S F K w0) (hb0 : Below w0.heap.size w0 w) (hFs : ∀ pre x args X Y, Cel X Y → F pre x args X → F pre x args Y)
    (I : List α → World → Prop) (Ix : Code → List α → World → Prop) (hI : Stays w.heap.size I) (hIx : ∀ c, Stays w.heap.size (Ix c)) (hK : ∀ pre W, I pre W → K W) (h0 : I [] w) (a₁ : Array Value → Act)
    (hassign : ∀ (l : Nat) (pre : List α) (x : α) (args : Array Value) (W : World) (K : Act → World → Prop), F pre x args W → K (a₁ args) W →
      assign.wpIn (Fence.wide.inRound l) (n - 1 - 1) P (Exit.then K (fun _ _ _ => False)) { tmps := (ps.zip args).foldl (fun t (p, v) => t.setIfInBounds p v) a.tmps, defers := [] } W)
    (hbody : ∀ (l : Nat) (pre : List α) (x : α) (args : Array Value) (W : World), I pre W → F pre x args W → body.wpIn (Fence.wide.inRound l) (n - 1 - 1) P (bodyB w.heap.size I Ix (pre ++ [x]) W) (a₁ args) W)
    (hdone : ∀ (D : Nat) (xs : List α) (W : World), w.heap.size ≤ D → S xs → I xs W → W.heap[D]? = some (.deferred (some [])) → Q .normal { a with defers := markB D :: a.defers } W)
    (hstop : ∀ (D : Nat) (c : Code) (pre : List α) (W : World), w.heap.size ≤ D → Ix c pre W → W.heap[D]? = some (.deferred (some [])) → c.wpIn Fence.wide n P Q { a with defers := markB D :: a.defers } W) :
    (Code.rangeFunc g ps assign body).wpIn Fence.wide n P Q a w := by
  refine wpIn_rangeFunc fun fn hfn => ?_
  obtain ⟨r, hr⟩ : ∃ r : LoopState → Option Code → Loop, r = recB fn a.tmps ps assign body w.heap.size := ⟨_, rfl⟩
  have hrp : ∀ s p, (r s p).params = ps := by intro s p; rw [hr]; rfl
  have hrf : ∀ s p, (r s p).fn = fn := by intro s p; rw [hr]; rfl
  have hrt : ∀ s p, (r s p).tmps = a.tmps := by intro s p; rw [hr]; rfl
  have hra : ∀ s p, (r s p).assign = assign := by intro s p; rw [hr]; rfl
  have hrb : ∀ s p, (r s p).body = body := by intro s p; rw [hr]; rfl
  have hrs : ∀ s p, (r s p).state = s := by intro s p; rw [hr]; rfl
  have hrq : ∀ s p, (r s p).pending = p := by intro s p; rw [hr]; rfl
  have hru : ∀ s p s', ({ r s p with state := s' } : Loop) = r s' p := by intro s p s'; rw [hr]; rfl
  have hrv : ∀ s p s' p', ({ r s p with state := s', pending := p' } : Loop) = r s' p' := by intro s p s' p'; rw [hr]; rfl
  let l := w.heap.size + 1
  let W1 := (w.alloc (.deferred (some []))).alloc (.loop (r .ready none))
  have hz1 : W1.heap.size = w.heap.size + 2 := by simp [W1]
  have hl1 : W1.heap[l]? = some (.loop (r .ready none)) := by
    have := World.alloc_heap_new (w.alloc (.deferred (some []))) (.loop (r .ready none))
    rwa [World.size_alloc] at this
  have hd1 : W1.heap[w.heap.size]? = some (.deferred (some [])) := (Below.heap_alloc _ _ _ (by simp)).trans (World.alloc_heap_new w _)
  have hbW : Below w.heap.size w W1 := ((Below.refl _ w).alloc (Nat.le_refl _) _).alloc (by simp) _
  have hi1 : I [] W1 := hI _ _ _ h0 hbW
  have put : ∀ {W : World} {s p} (o : Obj), W.heap[l]? = some (.loop (r s p)) → (W.putObj l o).heap[l]? = some o := fun o h => World.putObj_heap_same (Array.getElem?_eq_some_iff.1 h).1
  have putD : ∀ {W : World} (o : Obj), W.heap[w.heap.size]? = some (.deferred (some [])) → (W.putObj l o).heap[w.heap.size]? = some (.deferred (some [])) := fun o h => (World.putObj_heap_other (by omega)).trans h
  have turn : ∀ {pre W s p} (o : Obj), I pre W → W.heap[l]? = some (.loop (r s p)) → I pre (W.putObj l o) := fun o hi h => hI _ _ _ hi (below_put _ _ (by omega) (blk_lt h))
  have turnx : ∀ {c pre W s p} (o : Obj), Ix c pre W → W.heap[l]? = some (.loop (r s p)) → Ix c pre (W.putObj l o) := fun {c} {_} {_} {_} {_} o hi h => hIx c _ _ _ hi (below_put _ _ (by omega) (blk_lt h))
  refine ⟨l, [markB w.heap.size], W1, { target := .fn (.func gf) lb, args := #[.func (.yield l) #[] #[]] }, W1, gf, #[.func (.yield l) #[] #[]] ++ lb, W1, ?_, ?_, fun _ _ => trivial, ?_, (fun h => by cases h), ?_⟩
  · have := run_enterLoop_outer (P := P) (w := w) fn a.tmps ps assign body
    simp only [W1, hr]
    exact this
  · simp only [resolve, hg]
    simp [go_sem]
  · simp [invoke, go_sem, eg]
  · refine (hseq l (fun pre W => I pre W ∧ W.heap[l]? = some (.loop (r .ready none)) ∧ W.heap[w.heap.size]? = some (.deferred (some [])))
      (fun pre W => ∃ c, Ix c pre W ∧ W.heap[l]? = some (.loop (r .done (some c))) ∧ W.heap[w.heap.size]? = some (.deferred (some []))) W1 (hb0.trans (hbW.mono hb0.size))
      (fun s X Y hs hb => ⟨hI _ _ _ hs.1 (hb.mono (by omega)), (hb.block _ (by omega)).trans hs.2.1, (hb.block _ (by omega)).trans hs.2.2⟩)
      (fun s X Y hs hb => by
        obtain ⟨c, h1, h2, h3⟩ := hs
        exact ⟨c, hIx c _ _ _ h1 (hb.mono (by omega)), (hb.block _ (by omega)).trans h2, (hb.block _ (by omega)).trans h3⟩)
      (fun pre W h => hK _ _ h.1) ?_ ⟨hi1, hl1, hd1⟩).mono ?_
    · rintro pre x args W ⟨hi, hl, hd⟩ hF
      have hy := run_yield (P := P) (args := args) hl (by rw [hrp]; exact hps _ _ _ _ hF)
      have hb := run_beginRound (P := P) hl (hrs _ _)
      rw [hru] at hb
      rw [hrp, hrf, hrt, hra, hrb] at hy
      refine ⟨_, _, _, _, hy, roundIn_of_wpIn hfn ?_⟩
      refine hassign l pre x args W _ hF ⟨_, hb, ?_⟩
      refine wpIn_mono (hbody l pre x args _ (turn _ hi hl) (hFs _ _ _ _ _ (cel_put _ hl rfl) hF)) ?_
      have ab : ∀ {W3 : World} (o : Obj), Above w.heap.size (W.putObj l (.loop (r .busy none))) W3 → W3.heap[l]? = some (.loop (r .busy none)) → Above W1.heap.size W (W3.putObj l o) := fun {W3} o hk h3 => by
        refine ⟨by have := hk.size; simp at this ⊢; exact this, fun k h1 h2 => ?_⟩
        have hne : k ≠ l := by omega
        rw [World.putObj_heap_other hne, hk.block k (by omega) (by simpa using h2), World.putObj_heap_other hne]
      have fin : ∀ (jump : Option Code) (W3 : World), Above w.heap.size (W.putObj l (.loop (r .busy none))) W3 →
          (Instr.endRound l jump).run P W3 = .ok (.bool jump.isNone) (W3.putObj l (.loop (r (if jump.isNone then .ready else .done) jump))) ∧ W3.heap[l]? = some (.loop (r .busy none)) ∧ W3.heap[w.heap.size]? = some (.deferred (some [])) := by
        intro jump W3 hk
        have h3 := hk.at_ (k := l) (by omega) (put _ hl)
        have h4 := run_endRound (P := P) jump h3
        rw [hrv] at h4
        exact ⟨h4, h3, hk.at_ (Nat.le_refl _) (putD _ hd)⟩
      rintro e a3 W3 hp
      cases e with
      | normal =>
        obtain ⟨hk, hi3⟩ := hp
        obtain ⟨h4, h3, hd3⟩ := fin none W3 hk
        exact ⟨_, _, h4, Or.inl ⟨rfl, ⟨turn _ hi3 h3, put _ h3, putD _ hd3⟩, ab _ hk h3⟩⟩
      | ret =>
        obtain ⟨hk, hi3⟩ := hp
        obtain ⟨h4, h3, hd3⟩ := fin (some .ret) W3 hk
        exact ⟨_, _, h4, Or.inr ⟨rfl, ⟨.ret, turnx _ hi3 h3, put _ h3, putD _ hd3⟩, ab _ hk h3⟩⟩
      | exit id =>
        obtain ⟨hk, hi3⟩ := hp
        obtain ⟨h4, h3, hd3⟩ := fin (some (.exit id)) W3 hk
        exact ⟨_, _, h4, Or.inr ⟨rfl, ⟨.exit id, turnx _ hi3 h3, put _ h3, putD _ hd3⟩, ab _ hk h3⟩⟩
      | goto t =>
        obtain ⟨hk, hi3⟩ := hp
        obtain ⟨h4, h3, hd3⟩ := fin (some (.goto t)) W3 hk
        exact ⟨_, _, h4, Or.inr ⟨rfl, ⟨.goto t, turnx _ hi3 h3, put _ h3, putD _ hd3⟩, ab _ hk h3⟩⟩
      | panic ch => exact hp.elim
      | outgrown => exact hp.elim
    · rintro e W2 ⟨⟨v, rfl⟩, ⟨xs, hS, hi, hl, hd⟩ | ⟨pre, c, hi, hl, hd⟩⟩
      · have h5 := run_endLoop (P := P) hl (by rw [hrs]; simp)
        rw [hrq] at h5
        exact ⟨none, _, h5, hdone _ _ _ (Nat.le_refl _) hS (turn _ hi hl) (putD _ hd)⟩
      · have h5 := run_endLoop (P := P) hl (by rw [hrs]; simp)
        rw [hrq] at h5
        exact ⟨some c, _, h5, hstop _ c pre _ (Nat.le_refl _) (turnx _ hi hl) (putD _ hd)⟩

/-- an iterator that changes nothing by itself -/
def SeqK {α : Type} (P : Program) (n gf : Nat) (lb : Array Value) (S : List α → Prop) (F : List α → α → Array Value → World → Prop) (K : World → Prop) : Prop :=
  ∀ (l : Nat) (J Jx : List α → World → Prop) (W : World), (∀ pre W1, J pre W1 → K W1) →
    (∀ pre x args W1, J pre W1 → F pre x args W1 → YieldAt Fence.wide (n - 1) P l args W1 fun e W' => (e = .returned (.bool true) ∧ J (pre ++ [x]) W') ∨ (e = .returned (.bool false) ∧ Jx (pre ++ [x]) W')) →
    J [] W → CallsIn Fence.wide n P gf (#[.func (.yield l) #[] #[]] ++ lb) W fun e W' => (∃ v, e = .returned v) ∧ ((∃ xs, S xs ∧ J xs W') ∨ ∃ pre, Jx pre W')
theorem SeqK.toB {α : Type} {P : Program} {n gf : Nat} {lb : Array Value} {S : List α → Prop} {F : List α → α → Array Value → World → Prop} {K : World → Prop} (h : SeqK P n gf lb S F K) (w0 : World) : SeqB P n gf lb S F K w0 :=
  fun l J Jx W _ _ _ hK hY h0 => h l J Jx W hK (fun pre x args W1 hj hF => by
    obtain ⟨fn, tmps, assign, body, hy, hR⟩ := hY pre x args W1 hj hF
    exact ⟨fn, tmps, assign, body, hy, hR.mono fun e w' hr => hr.imp (fun h => ⟨h.1, h.2.1⟩) (fun h => ⟨h.1, h.2.1⟩)⟩) h0

theorem range_seqK {α : Type} {P : Program} {g : Operand} {ps : Array Tmp} {assign body : Code} {Q : Exit → Act → World → Prop} {a : Act} {w : World} {n gf : Nat} {lb : Array Value} {S : List α → Prop} {F : List α → α → Array Value → World → Prop} {K : World → Prop}
    (hg : a.eval g = .func (.func gf) #[] lb) (eg : ∀ args w, (callFunc gf args).run P w = .ok (.enter gf args) w) (hps : ∀ pre x args W, F pre x args W → args.size = ps.size)
    (hseq : SeqK P (n - 1) gf lb S F K) (hFs : ∀ pre x args X Y, Cel X Y → F pre x args X → F pre x args Y)
    (I : List α → World → Prop) (Ix : Code → List α → World → Prop) (hI : OwnFrom w.heap.size I) (hIx : ∀ c, OwnFrom w.heap.size (Ix c)) (hK : ∀ pre W, I pre W → K W) (h0 : I [] w) (a₁ : Array Value → Act)
    (hassign : ∀ (l : Nat) (pre : List α) (x : α) (args : Array Value) (W : World) (K : Act → World → Prop), F pre x args W → K (a₁ args) W →
      assign.wpIn (Fence.wide.inRound l) (n - 1 - 1) P (Exit.then K (fun _ _ _ => False)) { tmps := (ps.zip args).foldl (fun t (p, v) => t.setIfInBounds p v) a.tmps, defers := [] } W)
    (hbody : ∀ (l : Nat) (pre : List α) (x : α) (args : Array Value) (W : World), I pre W → F pre x args W → body.wpIn (Fence.wide.inRound l) (n - 1 - 1) P (ownPostK (fun _ _ => True) I Ix (pre ++ [x]) W) (a₁ args) W)
    (hdone : ∀ (D : Nat) (xs : List α) (W : World), w.heap.size ≤ D → S xs → I xs W → W.heap[D]? = some (.deferred (some [])) → Q .normal { a with defers := markB D :: a.defers } W)
    (hstop : ∀ (D : Nat) (c : Code) (pre : List α) (W : World), w.heap.size ≤ D → Ix c pre W → W.heap[D]? = some (.deferred (some [])) → c.wpIn Fence.wide n P Q { a with defers := markB D :: a.defers } W) :
    (Code.rangeFunc g ps assign body).wpIn Fence.wide n P Q a w := by
  refine wpIn_rangeFunc fun fn hfn => ?_
  obtain ⟨r, hr⟩ : ∃ r : LoopState → Option Code → Loop, r = recB fn a.tmps ps assign body w.heap.size := ⟨_, rfl⟩
  have hrp : ∀ s p, (r s p).params = ps := by intro s p; rw [hr]; rfl
  have hrf : ∀ s p, (r s p).fn = fn := by intro s p; rw [hr]; rfl
  have hrt : ∀ s p, (r s p).tmps = a.tmps := by intro s p; rw [hr]; rfl
  have hra : ∀ s p, (r s p).assign = assign := by intro s p; rw [hr]; rfl
  have hrb : ∀ s p, (r s p).body = body := by intro s p; rw [hr]; rfl
  have hrs : ∀ s p, (r s p).state = s := by intro s p; rw [hr]; rfl
  have hrq : ∀ s p, (r s p).pending = p := by intro s p; rw [hr]; rfl
  have hru : ∀ s p s', ({ r s p with state := s' } : Loop) = r s' p := by intro s p s'; rw [hr]; rfl
  have hrv : ∀ s p s' p', ({ r s p with state := s', pending := p' } : Loop) = r s' p' := by intro s p s' p'; rw [hr]; rfl
  let l := w.heap.size + 1
  let W1 := (w.alloc (.deferred (some []))).alloc (.loop (r .ready none))
  have hl1 : W1.heap[l]? = some (.loop (r .ready none)) := by
    have := World.alloc_heap_new (w.alloc (.deferred (some []))) (.loop (r .ready none))
    rwa [World.size_alloc] at this
  have hd1 : W1.heap[w.heap.size]? = some (.deferred (some [])) := (Below.heap_alloc _ _ _ (by simp)).trans (World.alloc_heap_new w _)
  have hi1 : I [] W1 := hI.alloc _ (hI.alloc _ h0)
  have turn : ∀ {pre W s p} (o : Obj), I pre W → W.heap[l]? = some (.loop (r s p)) → I pre (W.putObj l o) := fun o hi h => hI.putObj o hi (by omega) h rfl
  have turnx : ∀ {c pre W s p} (o : Obj), Ix c pre W → W.heap[l]? = some (.loop (r s p)) → Ix c pre (W.putObj l o) := fun {c} {_} {_} {_} {_} o hi h => (hIx c).putObj o hi (by omega) h rfl
  have put : ∀ {W : World} {s p} (o : Obj), W.heap[l]? = some (.loop (r s p)) → (W.putObj l o).heap[l]? = some o := fun o h => World.putObj_heap_same (Array.getElem?_eq_some_iff.1 h).1
  have putD : ∀ {W : World} (o : Obj), W.heap[w.heap.size]? = some (.deferred (some [])) → (W.putObj l o).heap[w.heap.size]? = some (.deferred (some [])) := fun o h => (World.putObj_heap_other (by omega)).trans h
  refine ⟨l, [markB w.heap.size], W1, { target := .fn (.func gf) lb, args := #[.func (.yield l) #[] #[]] }, W1, gf, #[.func (.yield l) #[] #[]] ++ lb, W1, ?_, ?_, fun _ _ => trivial, ?_, (fun h => by cases h), ?_⟩
  · have := run_enterLoop_outer (P := P) (w := w) fn a.tmps ps assign body
    simp only [W1, hr]
    exact this
  · simp only [resolve, hg]
    simp [go_sem]
  · simp [invoke, go_sem, eg]
  · refine (hseq l (fun pre W => I pre W ∧ W.heap[l]? = some (.loop (r .ready none)) ∧ W.heap[w.heap.size]? = some (.deferred (some [])))
      (fun pre W => ∃ c, Ix c pre W ∧ W.heap[l]? = some (.loop (r .done (some c))) ∧ W.heap[w.heap.size]? = some (.deferred (some []))) W1 (fun pre W h => hK _ _ h.1) ?_ ⟨hi1, hl1, hd1⟩).mono ?_
    · rintro pre x args W ⟨hi, hl, hd⟩ hF
      have hy := run_yield (P := P) (args := args) hl (by rw [hrp]; exact hps _ _ _ _ hF)
      have hb := run_beginRound (P := P) hl (hrs _ _)
      rw [hru] at hb
      rw [hrp, hrf, hrt, hra, hrb] at hy
      refine ⟨_, _, _, _, hy, roundIn_of_wpIn hfn ?_⟩
      refine hassign l pre x args W _ hF ⟨_, hb, ?_⟩
      refine wpIn_mono (hbody l pre x args _ (turn _ hi hl) (hFs _ _ _ _ _ (cel_put _ hl rfl) hF)) ?_
      have fin : ∀ (jump : Option Code) (W3 : World), KeepsOthers (W.putObj l (.loop (r .busy none))) W3 →
          (Instr.endRound l jump).run P W3 = .ok (.bool jump.isNone) (W3.putObj l (.loop (r (if jump.isNone then .ready else .done) jump))) ∧ W3.heap[l]? = some (.loop (r .busy none)) ∧ W3.heap[w.heap.size]? = some (.deferred (some [])) := by
        intro jump W3 hk
        have h3 := hk.same l _ (put _ hl) rfl
        have h4 := run_endRound (P := P) jump h3
        rw [hrv] at h4
        exact ⟨h4, h3, hk.same _ _ (putD _ hd) rfl⟩
      rintro e a3 W3 hp
      cases e with
      | normal =>
        obtain ⟨hk, _, hi3⟩ := hp
        obtain ⟨h4, h3, hd3⟩ := fin none W3 hk
        exact ⟨_, _, h4, Or.inl ⟨rfl, turn _ hi3 h3, put _ h3, putD _ hd3⟩⟩
      | ret =>
        obtain ⟨hk, hi3⟩ := hp
        obtain ⟨h4, h3, hd3⟩ := fin (some .ret) W3 hk
        exact ⟨_, _, h4, Or.inr ⟨rfl, .ret, turnx _ hi3 h3, put _ h3, putD _ hd3⟩⟩
      | exit id =>
        obtain ⟨hk, hi3⟩ := hp
        obtain ⟨h4, h3, hd3⟩ := fin (some (.exit id)) W3 hk
        exact ⟨_, _, h4, Or.inr ⟨rfl, .exit id, turnx _ hi3 h3, put _ h3, putD _ hd3⟩⟩
      | goto t =>
        obtain ⟨hk, hi3⟩ := hp
        obtain ⟨h4, h3, hd3⟩ := fin (some (.goto t)) W3 hk
        exact ⟨_, _, h4, Or.inr ⟨rfl, .goto t, turnx _ hi3 h3, put _ h3, putD _ hd3⟩⟩
      | panic ch => exact hp.elim
      | outgrown => exact hp.elim
    · rintro e W2 ⟨⟨v, rfl⟩, ⟨xs, hS, hi, hl, hd⟩ | ⟨pre, c, hi, hl, hd⟩⟩
      · have h5 := run_endLoop (P := P) hl (by rw [hrs]; simp)
        rw [hrq] at h5
        exact ⟨none, _, h5, hdone _ _ _ (Nat.le_refl _) hS (turn _ hi hl) (putD _ hd)⟩
      · have h5 := run_endLoop (P := P) hl (by rw [hrs]; simp)
        rw [hrq] at h5
        exact ⟨some c, _, h5, hstop _ c pre _ (Nat.le_refl _) (turnx _ hi hl) (putD _ hd)⟩

/-- marks alone are left of the calls to be made at the end -/
def MarksB (W : World) (ds : List Nat) : Prop := ds.Nodup ∧ ∀ D ∈ ds, W.heap[D]? = some (.deferred (some []))
theorem leaves_marksB {F : Fence} {n : Nat} {P : Program} {fn : Func} {tmps : Array Value} {R : Ending → World → Prop} {base : Nat} : ∀ (ds : List Nat) (W : World), MarksB W ds → (∀ D ∈ ds, base ≤ D) →
    (∀ W', Below base W W' → (∀ k, (∀ D ∈ ds, k ≠ D) → W'.heap[k]? = W.heap[k]?) → W'.heap.size = W.heap.size → LeavesIn F n P fn tmps R [] .returning W') →
    LeavesInM F n P fn tmps R (ds.map markB) .returning W
  | [], W, _, _, h => by
    simp only [List.map_nil, LeavesInM]
    exact h W (Below.refl _ _) (fun _ _ => rfl) rfl
  | D :: ds, W, hm, hb, h => by
    have hD := hm.2 D (by simp)
    have hnd := List.nodup_cons.1 hm.1
    have hbD : base ≤ D := hb D (by simp)
    have hB : Below base W (W.putObj D (.deferred none)) := below_put _ _ hbD (blk_lt hD)
    simp only [List.map_cons, LeavesInM]
    refine ⟨by simp, Or.inl ⟨D, _, rfl, run_takeDeferred hD, ?_⟩⟩
    refine leaves_marksB ds _ ⟨hnd.2, fun D' hD' => ?_⟩ (fun D' hD' => hb D' (by simp [hD'])) fun W' hB' hk hsz => ?_
    · have hne : D' ≠ D := fun e => hnd.1 (by rw [← e]; exact hD')
      exact (World.putObj_heap_other hne).trans (hm.2 D' (by simp [hD']))
    · refine h W' (hB.trans hB') (fun k hne => ?_) (by rw [hsz]; simp)
      rw [hk k (fun D' hD' => hne D' (by simp [hD']))]
      exact World.putObj_heap_other (hne D (by simp))
end Go.Proofs.Ytapojmniokdjfaa

