/- A slice of bytes that holds a list, a slice of such slices, each in blocks of which something is known (R); rows that the call made; append onto these; cuts. -/
import Derived.Test.YtieeojigonbifaaJrnPure
import Derived.Test.YtieeojigonbifaaProg
import Derived.WalkKit
import Derived.ProofKit
import Derived.Lib.Hide
import Derived.OpenShut
import Derived.Laws.AppendOwn
import Derived.Laws.AppendOwnNone
import Derived.Laws.OwnMore
import Derived.Laws.BytesArg
import Derived.Maps.AppendAt
import Derived.OwnWalk
namespace Go.Proofs.Ytieeojigonbifaa
open Go.RowKit
set_option linter.unusedVariables false

theorem blw {w w1 w2 : World} (h : Below w.heap.size w w1) (k : Below w1.heap.size w1 w2) : Below w.heap.size w w2 := h.trans (k.mono h.size)

/-- '.slice A xs.length c' holds the bytes xs, in a block of which R holds -/
structure Byts (w : World) (R : Nat → Prop) (A : Option Addr) (c : Nat) (xs : List Int) : Prop where
  cells : ∀ k x, xs[k]? = some x → ∃ b off, A = some ⟨b, off, none⟩ ∧ R b ∧ w.cell? ⟨b, off + k, none⟩ = some (.int .u8 x) ∧ 0 ≤ x ∧ x ≤ 255
  cap : xs.length ≤ c
  top : c ≤ maxLen
  nil : A = none → c = 0

section
variable {w w' : World} {R R' : Nat → Prop} {A : Option Addr} {c : Nat} {xs : List Int}
theorem Byts.bts (h : Byts w R A c xs) : Bts xs := by
  intro x hx
  obtain ⟨k, hk⟩ := List.getElem?_of_mem hx
  obtain ⟨b, off, _, _, _, h1, h2⟩ := h.cells k x hk
  exact ⟨h1, h2⟩
theorem Byts.at_ (h : Byts w R A c xs) {k : Nat} (hk : k < xs.length) :
    ∃ b off x, A = some ⟨b, off, none⟩ ∧ R b ∧ xs[k]? = some x ∧ w.cell? ⟨b, off + k, none⟩ = some (.int .u8 x) ∧ 0 ≤ x ∧ x ≤ 255 := by
  have hx : xs[k]? = some xs[k] := List.getElem?_eq_getElem hk
  obtain ⟨b, off, e, hr, hc, h1, h2⟩ := h.cells k _ hx
  exact ⟨b, off, _, e, hr, hx, hc, h1, h2⟩
theorem Byts.keep (h : Byts w R A c xs) (hk : ∀ b, R b → b < w.heap.size → w'.heap[b]? = w.heap[b]?) : Byts w' R A c xs := by
  refine ⟨fun k x hx => ?_, h.cap, h.top, h.nil⟩
  obtain ⟨b, off, e, hr, hc, hb⟩ := h.cells k x hx
  refine ⟨b, off, e, hr, ?_, hb⟩
  rw [World.cell?_of_block (w := w) (hk b hr (World.block_lt_of_cell? w _ hc))]
  exact hc
theorem Byts.mono (h : Byts w R A c xs) (hR : ∀ b, b < w.heap.size → R b → R' b) : Byts w R' A c xs := by
  refine ⟨fun k x hx => ?_, h.cap, h.top, h.nil⟩
  obtain ⟨b, off, e, hr, hc, hb⟩ := h.cells k x hx
  exact ⟨b, off, e, hR b (World.block_lt_of_cell? w _ hc) hr, hc, hb⟩
theorem Byts.any (h : Byts w R A c xs) : Byts w (fun _ => True) A c xs := h.mono fun _ _ _ => trivial
theorem Byts.old (h : Byts w R A c xs) : Byts w (fun b => b < w.heap.size) A c xs := h.mono fun _ hb _ => hb
theorem Byts.below (h : Byts w R A c xs) (hb : Below w.heap.size w w') : Byts w' R A c xs := h.keep fun b _ hlt => hb.block b hlt
theorem Byts.alloc (h : Byts w R A c xs) (o : Obj) : Byts (w.alloc o) R A c xs := h.keep fun b _ hlt => Below.heap_alloc w o b hlt
theorem Byts.take (h : Byts w R A c xs) (n : Nat) : Byts w R A c (xs.take n) := by
  refine ⟨fun k x hx => h.cells k x ?_, by have := h.cap; rw [List.length_take]; omega, h.top, h.nil⟩
  rw [List.getElem?_take] at hx
  split at hx
  · exact hx
  · cases hx
def cutA (A : Option Addr) (c lo : Nat) : Option Addr := if c = lo then A else A.map (·.add lo)
theorem Byts.cut (h : Byts w R A c xs) {lo : Nat} (hlo : lo ≤ xs.length) : Byts w R (cutA A c lo) (c - lo) (xs.drop lo) := by
  have hcap := h.cap
  refine ⟨fun k x hx => ?_, by rw [List.length_drop]; omega, by have := h.top; omega, fun e => ?_⟩
  · rw [List.getElem?_drop] at hx
    have hlt := (List.getElem?_eq_some_iff.1 hx).1
    obtain ⟨b, off, e, hr, hc, hb⟩ := h.cells _ x hx
    refine ⟨b, off + lo, ?_, hr, ?_, hb⟩
    · subst e
      unfold cutA
      rw [if_neg (by omega)]
      simp only [Option.map_some, Addr.add]
      split
      · subst_vars; rfl
      · rfl
    · rw [Nat.add_assoc]; exact hc
  · have : A = none := by
      unfold cutA at e
      split at e
      · exact e
      · cases A with
        | none => rfl
        | some a => cases e
    have := h.nil this
    omega
end
theorem Byts.empty (w : World) (R : Nat → Prop) : Byts w R none 0 [] := ⟨fun k x h => by simp at h, Nat.le_refl _, Nat.zero_le _, fun _ => rfl⟩

theorem info_u8 : (Try.prog.info? 5).map (fun i => (i.zero, i.size, i.bytes)) = some (some (.int .u8 0), 1, 1) := by kernel_rfl
theorem info_row : (Try.prog.info? 22).map (fun i => (i.zero, i.size, i.bytes)) = some (some (.slice none 0 0), 1, 24) := by kernel_rfl
theorem size_u8 (W : World) : (sizeOf (Try.prog.elem 22)).run Try.prog W = .ok 1 W := by
  obtain ⟨i0, hi, hz0, hz1, hz2⟩ := info_parts info_u8
  rw [show Try.prog.elem 22 = 5 from by kernel_rfl]
  simp [sizeOf, typeInfo, hi, hz1]
theorem size_row (W : World) : (sizeOf (Try.prog.elem 34)).run Try.prog W = .ok 1 W := by
  obtain ⟨i0, hi, hz0, hz1, hz2⟩ := info_parts info_row
  rw [show Try.prog.elem 34 = 22 from by kernel_rfl]
  simp [sizeOf, typeInfo, hi, hz1]
theorem run_cut_l (A : Option Addr) (n c lo : Nat) (kl : IntKind) (l : Int) (hl : l = (lo : Int)) (h : lo ≤ n) (W : World) :
    (Instr.slice 22 (.slice A n c) (some (.int kl l)) none none).run Try.prog W = .ok (.slice (cutA A c lo) (n - lo) (c - lo)) W := by
  subst hl
  rw [run_slice_l W 22 A n c (by kernel_rfl) kl lo (by omega) (by omega), size_u8]
  simp [Result.andThen, sliced, cutA]
theorem run_cut_lh (A : Option Addr) (n c lo hi : Nat) (kl kh : IntKind) (l h' : Int) (hl : l = (lo : Int)) (hh : h' = (hi : Int)) (h : lo ≤ hi) (h2 : hi ≤ c) (W : World) :
    (Instr.slice 22 (.slice A n c) (some (.int kl l)) (some (.int kh h')) none).run Try.prog W = .ok (.slice (cutA A c lo) (hi - lo) (c - lo)) W := by
  subst hl hh
  rw [run_slice_lh W 22 A n c (by kernel_rfl) kl kh lo hi (by omega) (by omega) (by omega), size_u8]
  simp [Result.andThen, sliced, cutA]
theorem run_cut_h (A : Option Addr) (n c hi : Nat) (kh : IntKind) (h' : Int) (hh : h' = (hi : Int)) (h2 : hi ≤ c) (W : World) :
    (Instr.slice 22 (.slice A n c) none (some (.int kh h')) none).run Try.prog W = .ok (.slice A hi c) W := by
  subst hh
  rw [run_slice_h W 22 A n c (by kernel_rfl) kh hi (by omega) (by omega), size_u8]
  cases A <;> simp [Result.andThen, sliced, Addr.add]
theorem run_cutR_h (A : Option Addr) (n c hi : Nat) (kh : IntKind) (h' : Int) (hh : h' = (hi : Int)) (h2 : hi ≤ c) (W : World) :
    (Instr.slice 34 (.slice A n c) none (some (.int kh h')) none).run Try.prog W = .ok (.slice A hi c) W := by
  subst hh
  rw [run_slice_h W 34 A n c (by kernel_rfl) kh hi (by omega) (by omega), size_row]
  cases A <;> simp [Result.andThen, sliced, Addr.add]

/-- a row of bytes that the call made -/
def OwnB (w : World) (base : Nat) (v : Value) (xs : List Int) : Prop := w.ownsRow base 5 1 v xs.length (xs.map (Value.int .u8)) ∧ Bts xs
theorem OwnB.nil (w : World) (base : Nat) : OwnB w base (.slice none 0 0) [] := ⟨World.ownsRow_nil w base _ 1, Bts.nil⟩
theorem OwnB.lit (w : World) (base : Nat) (hb : base ≤ w.heap.size) (xs : List Int) (hx : Bts xs) (hl : xs.length ≤ maxLen) :
    OwnB (w.alloc (.cells (xs.map (Value.int .u8)).toArray 5)) base (.slice (some ⟨w.heap.size, 0, none⟩) xs.length xs.length) xs := by
  have := World.ownsRow_lit (base := base) (e := 5) (size := 1) w (xs.map (Value.int .u8)).toArray xs.length hb hl (by simp)
  exact ⟨by simpa using this, hx⟩
theorem OwnB.alloc {w : World} {base : Nat} {v : Value} {xs : List Int} (h : OwnB w base v xs) (o : Obj) : OwnB (w.alloc o) base v xs := ⟨World.ownsRow.alloc h.1 o, h.2⟩
theorem ownsRow_keep {w w' : World} {base : Nat} {e : TypeId} {v : Value} {n : Nat} {xs : List Value} (h : w.ownsRow base e 1 v n xs) (hk : ∀ b, v.ownBlock = some b → w'.heap[b]? = w.heap[b]?) : w'.ownsRow base e 1 v n xs := by
  refine ⟨h.1, ?_⟩
  rcases h.2 with h0 | ⟨g, cap, cur, hv, hbg, hh, rest⟩
  · exact Or.inl h0
  · exact Or.inr ⟨g, cap, cur, hv, hbg, by rw [hk g (by rw [hv]; rfl)]; exact hh, rest⟩
theorem OwnB.keep {w w' : World} {base : Nat} {v : Value} {xs : List Int} (h : OwnB w base v xs) (hk : ∀ b, v.ownBlock = some b → w'.heap[b]? = w.heap[b]?) : OwnB w' base v xs := ⟨ownsRow_keep h.1 hk, h.2⟩
theorem OwnB.below {w w' : World} {base : Nat} {v : Value} {xs : List Int} (h : OwnB w base v xs) (hb : Below w.heap.size w w') : OwnB w' base v xs := h.keep fun b e => hb.block b (h.1.lt b e).2
theorem OwnB.base {w : World} {base base' : Nat} {v : Value} {xs : List Int} (h : OwnB w base v xs) (hb : base' ≤ base) : OwnB w base' v xs := by
  refine ⟨⟨h.1.1, ?_⟩, h.2⟩
  rcases h.1.2 with h0 | ⟨g, cap, cur, hv, hbg, rest⟩
  · exact Or.inl h0
  · exact Or.inr ⟨g, cap, cur, hv, Nat.le_trans hb hbg, rest⟩
theorem OwnB.byts {w : World} {base : Nat} {v : Value} {xs : List Int} (h : OwnB w base v xs) : ∃ A c, v = .slice A xs.length c ∧ Byts w (fun b => base ≤ b ∧ v.ownBlock = some b) A c xs := by
  rcases h.1.2 with ⟨hv, hn⟩ | ⟨g, cap, cur, hv, hbg, hh, hnc, hcm, hcs, htake⟩
  · have hx : xs = [] := List.eq_nil_of_length_eq_zero hn
    subst hx
    exact ⟨none, 0, hv, Byts.empty _ _⟩
  · refine ⟨_, cap, hv, ⟨fun k x hx => ?_, hnc, hcm, fun e => by cases e⟩⟩
    refine ⟨g, 0, rfl, ⟨hbg, by rw [hv]; rfl⟩, ?_, h.2 x (List.mem_of_getElem? hx)⟩
    rw [Nat.zero_add, cell_of_row w g k cur _ (0, 0) hh]
    have hk : k < xs.length := (List.getElem?_eq_some_iff.1 hx).1
    have e : (cur.toList.take (xs.length * 1))[k]? = some (.int .u8 x) := by rw [htake, List.getElem?_map, hx]; rfl
    rw [List.getElem?_take, if_pos (by omega)] at e
    rw [← e, Array.getElem?_toList]

theorem wpList_appb {w : World} {ops : Array Oper} {rest : List Oper} {o : Oper} {a : Act} {Q : Exit → Act → World → Prop} (hgd : o.guard = none) (s x : Operand)
    (ho : o.op = .call { callee := .builtin .append, args := #[s, x], argTypes := #[22, 22] })
    (base : Nat) (v : Value) (xs : List Int) (hs : a.eval s = v) (hown : OwnB w base v xs) (A : Option Addr) (c m : Nat) (R : Nat → Prop) (zs : List Int) (hm : zs.length = m) (hx : a.eval x = .slice A m c)
    (hr : Byts w R A c zs) (hlen : xs.length + zs.length ≤ 100000000) (hbase : base ≤ w.heap.size)
    (h : ∀ (l : List Int) (A' : Option Addr) (c' : Nat) (w' : World), l = xs ++ zs → OwnB w' base (.slice A' l.length c') l → w.grownBy w' v.ownBlock → ((Value.slice A' l.length c').ownBlock = v.ownBlock ∨ (Value.slice A' l.length c').ownBlock = some w.heap.size) → Below base w w' →
      wpList Try.prog ops Q rest (a.put o.dst (.slice A' l.length c')) w') :
    wpList Try.prog ops Q (o :: rest) a w := by
  subst hm
  obtain ⟨i0, hi0, hz0, hz1, hz2⟩ := info_parts info_u8
  have hbt : Bts (xs ++ zs) := hown.2.app hr.bts
  have fin : ∀ (v' : Value) (w' : World), w'.ownsRow base 5 1 v' (xs.length + zs.length) (xs.map (Value.int .u8) ++ zs.map (Value.int .u8)) → w.grownBy w' v.ownBlock → (v'.ownBlock = v.ownBlock ∨ v'.ownBlock = some w.heap.size) →
      wpList Try.prog ops Q rest (a.put o.dst v') w' := by
    intro v' w' hown' hg hb
    have ho' : OwnB w' base v' (xs ++ zs) := ⟨by rw [List.map_append, List.length_append]; exact hown', hbt⟩
    obtain ⟨A', c', hv', _⟩ := ho'.byts
    subst hv'
    exact h _ A' c' w' rfl ho' hg hb ((Below.refl _ _).grown hg hbase fun k hk => (hown.1.lt k hk).1)
  rcases A with _ | ad
  · have hc0 := hr.nil rfl
    have hz : zs = [] := List.eq_nil_of_length_eq_zero (by have := hr.cap; omega)
    subst hz
    subst hc0
    refine wpList_append_own_none hgd s x _ ho base _ i0 1 Try.underlying22 hi0 v xs.length _ hs hown.1 hx ?_
    exact fin v w (by simpa using hown.1) (World.grownBy.refl _ _) (Or.inl rfl)
  · refine wpList_append_own_at w hgd s x _ ho base _ i0 (.int .u8 0) 1 1 Try.underlying22 hi0 hz0 hz1 hz2 rfl (by decide) v xs.length _ hs hown.1 ad zs.length c (zs.map (Value.int .u8)) hx (by simp) ?_ ?_ (by simp only [maxLen]; omega) (by omega) hbase ?_
    · intro j u hu
      rw [List.getElem?_map] at hu
      cases hz : zs[j]? with
      | none => rw [hz] at hu; cases hu
      | some y =>
        rw [hz] at hu
        obtain ⟨b, off, e, _, hc, _⟩ := hr.cells j y hz
        injection e with e
        subst e
        rw [Go.WideShapes.add_plain, hc]
        exact hu
    · exact ints_oneCell _ _
    · intro v' w' hown' hg _ hb
      exact fin v' w' hown' hg hb

end Go.Proofs.Ytieeojigonbifaa
