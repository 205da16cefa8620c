/- Sets of at most 30 numbers, one word: newSet, add, remove, has, join; the number of a word's trailing zeros. -/
import Derived.Test.YtaokbjacfdipmaaDoorDagMem
import Derived.Laws.BitsAllLaws
import Derived.Lib.TrailingZeros
import Derived.Shelf.Spec.TrailingZeros
import Derived.BigQuiet
import Derived.IntWalk
namespace Go.Proofs.YtaokbjacfdipmaaDoor
open Go.RowKit
set_option linter.unusedVariables false

/-- w' is w with one cell written, and draws -/
structure Wr (w w' : World) (g i : Nat) (x : Value) : Prop where
  os : w'.os = w.os
  tape : w'.tape = w.tape
  output : w'.output = w.output
  heap : w'.heap = (w.setCell ⟨g, i, none⟩ x).heap
theorem Wr.size {w w' : World} {g i : Nat} {x : Value} (h : Wr w w' g i x) : w'.heap.size = w.heap.size := by rw [h.heap]; simp [World.setCell]
theorem Wr.block {w w' : World} {g i k : Nat} {x : Value} (h : Wr w w' g i x) (hk : k ≠ g) : w'.heap[k]? = w.heap[k]? := by rw [h.heap]; exact Below.heap_setCell _ _ _ _ hk
theorem Wr.below {a w w' : World} {base g i : Nat} {x : Value} (h : Wr w w' g i x) (ha : Below base a w) (hg : base ≤ g) : Below base a w' := by
  have := ha.setCell (p := ⟨g, i, none⟩) hg x
  exact ⟨h.os.trans ha.os, h.tape.trans ha.tape, h.output.trans ha.output, by rw [h.size]; exact ha.size, fun k hk => by rw [h.heap]; exact this.block k hk⟩
theorem Wr.blk {w w' : World} {g i : Nat} {x : Value} {cs : Array Value} {t : TypeId} (h : Wr w w' g i x) (hc : w.heap[g]? = some (.cells cs t (0, 0))) : w'.heap[g]? = some (.cells (cs.setIfInBounds i x) t (0, 0)) := by
  rw [h.heap]; exact blk_set hc i x
theorem Wr.keep1 {w w' : World} {g i base : Nat} {x v : Value} {e : TypeId} {us : List Value} (h : Wr w w' g i x) (ho : Own1 w base e v us) (hne : v.ownBlock ≠ some g) : Own1 w' base e v us :=
  ho.keep fun b hb => h.block fun e => hne (by rw [hb, e])

/-- a word's cell -/
structure Word (w : World) (g wd : Nat) : Prop where
  blk : w.heap[g]? = some (.cells #[.int .u64 (wd : Int)] 62 (0, 0))
theorem Word.cell {w : World} {g wd : Nat} (h : Word w g wd) : w.cell? ⟨g, 0, none⟩ = some (.int .u64 (wd : Int)) := blk_cell h.blk 0
theorem Word.frozen {w : World} {g wd : Nat} (h : Word w g wd) : w.frozen? ⟨g, 0, none⟩ = false := blk_frozen h.blk 0
theorem Word.keep {w w' : World} {g wd : Nat} (h : Word w g wd) (hk : w'.heap[g]? = w.heap[g]?) : Word w' g wd := ⟨by rw [hk]; exact h.blk⟩
theorem Word.lt {w : World} {g wd : Nat} (h : Word w g wd) : g < w.heap.size := blk_lt h.blk
theorem Wr.word {w w' : World} {g wd x : Nat} (h : Wr w w' g 0 (.int .u64 (x : Int))) (hw : Word w g wd) : Word w' g x := ⟨by have := h.blk hw.blk; simpa using this⟩

/-- a set of numbers below n, at most 30: no cell, or one -/
structure SetAt (w : World) (base n : Nat) (v : Value) (wd : Nat) : Prop where
  ex : ∃ g, v = .slice (some ⟨g, 0, none⟩) (if n = 0 then 0 else 1) (if n = 0 then 0 else 1) ∧ base ≤ g ∧ (n ≠ 0 → Word w g wd)
  lt : wd < 2 ^ n
theorem SetAt.keep {w w' : World} {base n wd : Nat} {v : Value} (h : SetAt w base n v wd) (hk : ∀ b, v.ownBlock = some b → b < w.heap.size → w'.heap[b]? = w.heap[b]?) : SetAt w' base n v wd := by
  obtain ⟨⟨g, e, hb, hw⟩, hl⟩ := h
  exact ⟨⟨g, e, hb, fun hn => (hw hn).keep (hk g (by rw [e]; rfl) (hw hn).lt)⟩, hl⟩
theorem SetAt.below {w w' : World} {base n wd : Nat} {v : Value} (h : SetAt w base n v wd) (hb : Below w.heap.size w w') : SetAt w' base n v wd := h.keep fun b _ hlt => hb.block b hlt
theorem SetAt.open_ {w : World} {base n wd u : Nat} {v : Value} (h : SetAt w base n v wd) (hu : u < n) : ∃ g, v = .slice (some ⟨g, 0, none⟩) 1 1 ∧ base ≤ g ∧ Word w g wd := by
  obtain ⟨⟨g, e, hb, hw⟩, _⟩ := h
  have hn : n ≠ 0 := by omega
  rw [if_neg hn] at e
  exact ⟨g, e, hb, hw hn⟩

def Quiet (w w' : World) : Prop := w'.os = w.os ∧ w'.tape = w.tape ∧ w'.output = w.output ∧ w'.heap = w.heap
theorem Quiet.below {w w' : World} (h : Quiet w w') : Below w.heap.size w w' := ⟨h.1, h.2.1, h.2.2.1, by rw [h.2.2.2]; exact Nat.le_refl _, fun k _ => by rw [h.2.2.2]⟩
theorem Quiet.drew (w : World) (n : Nat) : Quiet w (w.drewN n) := ⟨rfl, rfl, rfl, rfl⟩

theorem pow_bd {u : Nat} (hu : u < 30) : 2 ^ u ≤ 536870912 := Nat.pow_le_pow_right (n := 2) (by decide) (show u ≤ 29 by omega)
theorem shl_lit (u : Nat) (hu : u < 30) : IntKind.u64.wrap ((2 : Int) ^ u) = ((2 ^ u : Nat) : Int) := by
  rw [IntKind.wrap_u64]
  have h := pow_bd hu
  have e : (2 : Int) ^ u = ((2 ^ u : Nat) : Int) := by simp
  rw [e]
  generalize 2 ^ u = p at h ⊢
  omega

def RetWr (w : World) (g : Nat) (x : Value) (e : Ending) (w' : World) : Prop := (∃ v, e = .returned v) ∧ Wr w w' g 0 x
set_option maxHeartbeats 800000 in
theorem add_any (g u wd : Nat) (w : World) (hw : Word w g wd) (hu : u < 30) (hwd : wd < 1073741824) :
    Calls Tryd.prog 40 #[.slice (some ⟨g, 0, none⟩) 1 1, .int .i64 (u : Int)] w (RetWr w g (.int .u64 ((wd ||| 2 ^ u : Nat) : Int))) := by
  have hc := hw.cell
  have hf := hw.frozen
  have q1 : (u : Int) / 64 = 0 := by omega
  have q2 : (u : Int) % 64 = u := by omega
  have hb := pow_bd hu
  have q4 := u64_or_nat wd (2 ^ u) (by omega) (by omega)
  rw [← shl_lit u hu] at q4
  have hv : (u : Int) < 30 := by omega
  have Q4 := Lib.hid q4; clear q4
  clear hw hb
  go_enter Tryd.func40, Tryd.ntmps40
  go_wp2
  go_region
  rw [Q4.out]
  go_end0
  exact ⟨⟨_, rfl⟩, rfl, rfl, rfl, rfl⟩

set_option maxHeartbeats 800000 in
theorem remove_any (g u wd : Nat) (w : World) (hw : Word w g wd) (hu : u < 30) (hwd : wd < 1073741824) :
    Calls Tryd.prog 46 #[.slice (some ⟨g, 0, none⟩) 1 1, .int .i64 (u : Int)] w (RetWr w g (.int .u64 ((wd &&& (18446744073709551615 - 2 ^ u) : Nat) : Int))) := by
  have hc := hw.cell
  have hf := hw.frozen
  have q1 : (u : Int) / 64 = 0 := by omega
  have q2 : (u : Int) % 64 = u := by omega
  have hb := pow_bd hu
  have q4 := u64_andNot_nat wd (2 ^ u) (by omega) (by omega)
  rw [← shl_lit u hu] at q4
  have hv : (u : Int) < 30 := by omega
  have Q4 := Lib.hid q4; clear q4
  clear hw hb
  go_enter Tryd.func46, Tryd.ntmps46
  go_wp2
  go_region
  rw [Q4.out]
  go_end0
  exact ⟨⟨_, rfl⟩, rfl, rfl, rfl, rfl⟩

theorem and_bit (wd u : Nat) (hu : u < 30) (hwd : wd < 1073741824) : bits .and .u64 (wd : Int) (IntKind.u64.wrap ((2 : Int) ^ u)) = ((wd &&& 2 ^ u : Nat) : Int) := by
  have hb := pow_bd hu
  rw [shl_lit u hu, bits_and_u64_nat wd (2 ^ u) (by omega) (by omega)]
theorem and_bit_ne (wd u : Nat) : (wd &&& 2 ^ u ≠ 0) ↔ wd.testBit u = true := by
  constructor
  · intro h
    cases ht : wd.testBit u with
    | true => rfl
    | false =>
      exfalso
      apply h
      apply Nat.eq_of_testBit_eq
      intro i
      rw [Nat.testBit_and, Nat.testBit_two_pow, Nat.zero_testBit]
      by_cases e : u = i
      · subst e; rw [ht]; rfl
      · simp [e]
  · intro h h0
    have : (wd &&& 2 ^ u).testBit u = true := by rw [Nat.testBit_and, h, Nat.testBit_two_pow]; simp
    rw [h0] at this
    simp at this

def RetQ (w : World) (v : Value) (e : Ending) (w' : World) : Prop := e = .returned v ∧ Quiet w w'
set_option maxHeartbeats 800000 in
theorem has_any (g u wd : Nat) (w : World) (hw : Word w g wd) (hu : u < 30) (hwd : wd < 1073741824) (r : Bool) (hr : wd.testBit u = r) :
    Calls Tryd.prog 41 #[.slice (some ⟨g, 0, none⟩) 1 1, .int .i64 (u : Int)] w (RetQ w (.bool r)) := by
  have hc := hw.cell
  have hf := hw.frozen
  have q1 : (u : Int) / 64 = 0 := by omega
  have q2 : (u : Int) % 64 = u := by omega
  have hb := pow_bd hu
  have hv : (u : Int) < 30 := by omega
  have hx : (bits .and .u64 (wd : Int) (IntKind.u64.wrap ((2 : Int) ^ u)) == 0) = !r := by
    rw [and_bit wd u hu hwd, ← hr, Bool.eq_iff_iff, beq_iff_eq, Bool.not_eq_true']
    have := and_bit_ne wd u
    constructor
    · intro h
      have h0 : wd &&& 2 ^ u = 0 := by omega
      cases ht : wd.testBit u with
      | false => rfl
      | true => exact absurd h0 (this.2 ht)
    · intro h
      rcases Nat.eq_zero_or_pos (wd &&& 2 ^ u) with h0 | h0
      · omega
      · rw [this.1 (by omega)] at h; cases h
  have HX := Lib.hid hx; clear hx
  clear hw hb hr
  go_enter Tryd.func41, Tryd.ntmps41
  go_wp2
  go_quiet (fail)
  go_wp2
  have hr : (bits .and .u64 (wd : Int) (IntKind.u64.wrap ((2 : Int) ^ u)) != 0) = r := by
    unfold bne; rw [HX.out, Bool.not_not]
  rw [hr]
  go_ret
  exact ⟨rfl, Quiet.drew w nq⟩

set_option maxHeartbeats 800000 in
theorem newSet_any (n : Nat) (w : World) (hn : n ≤ 30) :
    Calls Tryd.prog 37 #[.int .i64 (n : Int)] w fun e w' => ∃ v, e = .returned v ∧ SetAt w' w.heap.size n v 0 ∧ Below w.heap.size w w' := by
  by_cases h0 : n = 0
  · subst h0
    have hm := fun W : World => run_mk W 58 62 _ 8 Tryd.underlying58 info_u64 rfl (by decide) 0 (by decide) 0 0 rfl rfl
    go_enter Tryd.func37, Tryd.ntmps37
    go_wp2
    go_ret
    exact ⟨_, rfl, ⟨⟨_, rfl, Nat.le_refl _, fun h => absurd rfl h⟩, by decide⟩, (Below.refl _ _).alloc (Nat.le_refl _) _⟩
  · have hn' : (n : Int) ≤ 30 := by omega
    have hq : ((n : Int) + 64 - 1) / 64 = 1 := by omega
    have hm := fun W : World => run_mk W 58 62 _ 8 Tryd.underlying58 info_u64 rfl (by decide) 1 (by decide) 1 1 rfl rfl
    go_enter Tryd.func37, Tryd.ntmps37
    go_wp2
    go_ret
    refine ⟨_, rfl, ⟨⟨_, by rw [if_neg h0]; rfl, Nat.le_refl _, fun _ => ⟨heap_alloc_new w _⟩⟩, Nat.pow_pos (by decide)⟩, (Below.refl _ _).alloc (Nat.le_refl _) _⟩

end Go.Proofs.YtaokbjacfdipmaaDoor
