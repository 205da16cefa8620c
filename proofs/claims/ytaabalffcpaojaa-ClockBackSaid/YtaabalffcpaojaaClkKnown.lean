/- What the chapter's examples fix (known), and the calls on one or two numbers more, laid in a new slice. -/
import Derived.Test.YtaabalffcpaojaaClkRtext
import Derived.Test.YtaabalffcpaojaaClkClip
namespace Go.Proofs.Ytaabalffcpaojaa
open Go.RowKit
set_option linter.unusedVariables false

theorem blw {w W w1 : World} (h : Below w.heap.size w W) (hb : Below W.heap.size W w1) : Below w.heap.size w w1 := h.trans (hb.mono h.size)
theorem bal {w W : World} (h : Below w.heap.size w W) (o : Obj) : Below w.heap.size w (W.alloc o) := h.alloc h.size o

theorem ints_new (W : World) (zs : List Int) (T : TypeId) : Ints (W.alloc (.cells (zs.map (Value.int .i64)).toArray T)) (some ⟨W.heap.size, 0, none⟩) zs := by
  intro k x hx
  refine ⟨W.heap.size, 0, rfl, by simp, ?_⟩
  have h : (W.alloc (.cells (zs.map (Value.int .i64)).toArray T)).heap[W.heap.size]? = some (.cells (zs.map (Value.int .i64)).toArray T (0, 0)) := heap_alloc_new W _
  rw [cell_of_row _ W.heap.size _ _ _ (0, 0) h]
  simp [hx]

theorem add1 (t a : Int) (W : World) (g c : Nat) (T : TypeId) (hg : W.heap.size = g) : Calls Try.prog 12 #[.int .i64 t, .slice (some ⟨g, 0, none⟩) 1 c] (W.alloc (.cells #[.int .i64 a] T))
    fun e w' => e = .returned (.tuple #[.int .i64 (addV [t, a]), .int .i64 (addE [t, a])]) ∧ W.alloc (.cells #[.int .i64 a] T) = w' := by
  subst hg
  exact add_any t _ c [a] _ (ints_new W [a] T) (by simp [maxLen])
theorem add2 (t a b : Int) (W : World) (g c : Nat) (T : TypeId) (hg : W.heap.size = g) : Calls Try.prog 12 #[.int .i64 t, .slice (some ⟨g, 0, none⟩) 2 c] (W.alloc (.cells #[.int .i64 a, .int .i64 b] T))
    fun e w' => e = .returned (.tuple #[.int .i64 (addV [t, a, b]), .int .i64 (addE [t, a, b])]) ∧ W.alloc (.cells #[.int .i64 a, .int .i64 b] T) = w' := by
  subst hg
  exact add_any t _ c [a, b] _ (ints_new W [a, b] T) (by simp [maxLen])
theorem clip1 (t a : Int) (W : World) (g c : Nat) (T : TypeId) (hg : W.heap.size = g) : Calls Try.prog 14 #[.int .i64 t, .slice (some ⟨g, 0, none⟩) 1 c] (W.alloc (.cells #[.int .i64 a] T))
    fun e w' => e = .returned (.int .i64 (clipA [t, a])) ∧ W.alloc (.cells #[.int .i64 a] T) = w' := by
  subst hg
  exact clip_any t _ c [a] _ (ints_new W [a] T) (by simp [maxLen])
theorem clip2 (t a b : Int) (W : World) (g c : Nat) (T : TypeId) (hg : W.heap.size = g) : Calls Try.prog 14 #[.int .i64 t, .slice (some ⟨g, 0, none⟩) 2 c] (W.alloc (.cells #[.int .i64 a, .int .i64 b] T))
    fun e w' => e = .returned (.int .i64 (clipA [t, a, b])) ∧ W.alloc (.cells #[.int .i64 a, .int .i64 b] T) = w' := by
  subst hg
  exact clip_any t _ c [a, b] _ (ints_new W [a, b] T) (by simp [maxLen])

theorem k_add : addV [3, 4, 5] = 12 ∧ addE [3, 4, 5] = 0 := by decide
theorem k_clip : clipA [1099511627775, 1] = 1099511627775 := by decide
theorem k_read : readV (⟨#[48, 48, 55]⟩ : ByteArray).data.toList = 0 ∧ readE (⟨#[48, 48, 55]⟩ : ByteArray).data.toList = 5 := by decide
theorem k_text : (⟨(textL 40).toArray⟩ : ByteArray) = ⟨#[52, 48]⟩ := by
  have h : textL 40 = [52, 48] := by
    rw [textL_yes (by decide)]
    show txt 40 = _
    rw [txt_more (by omega), txt_small (by omega)]; rfl
  rw [h]
theorem known_read (w : World) : Calls Try.prog 22 #[.string ⟨#[48, 48, 55]⟩] w fun e w' => e = .returned (.tuple #[.int .i64 0, .int .i64 5]) ∧ Below w.heap.size w w' := by
  have h := read_any ⟨#[48, 48, 55]⟩ w (by decide)
  rw [k_read.1, k_read.2] at h
  exact h
theorem known_text (w : World) : Calls Try.prog 24 #[.int .i64 40] w fun e w' => e = .returned (.string ⟨#[52, 48]⟩) ∧ Below w.heap.size w w' := by
  have h := text_any 40 w
  rw [k_text] at h
  exact h
theorem known_add (W : World) (T : TypeId) : Calls Try.prog 12 #[.int .i64 3, .slice (some ⟨W.heap.size, 0, none⟩) 2 2] (W.alloc (.cells #[.int .i64 4, .int .i64 5] T))
    fun e w' => e = .returned (.tuple #[.int .i64 12, .int .i64 0]) ∧ W.alloc (.cells #[.int .i64 4, .int .i64 5] T) = w' := by
  have h := add2 3 4 5 W _ 2 T rfl
  rw [k_add.1, k_add.2] at h
  exact h
theorem known_clip (W : World) (T : TypeId) : Calls Try.prog 14 #[.int .i64 1099511627775, .slice (some ⟨W.heap.size, 0, none⟩) 1 1] (W.alloc (.cells #[.int .i64 1] T))
    fun e w' => e = .returned (.int .i64 1099511627775) ∧ W.alloc (.cells #[.int .i64 1] T) = w' := by
  have h := clip1 1099511627775 1 W _ 1 T rfl
  rw [k_clip] at h
  exact h

set_option maxHeartbeats 800000 in
theorem known_any (w : World) : Calls Try.prog 11 #[] w fun e w' => e = .returned (.bool true) ∧ Below w.heap.size w w' := by
  go_enter Try.func11, Try.ntmps11
  go_wp2_with fail
  refine (known_add _ _).mono ?_
  rintro e w' ⟨rfl, rfl⟩
  go_wp2_with fail
  refine (known_read _).mono ?_
  rintro e w1 ⟨rfl, hb1⟩
  go_wp2_with fail
  refine (known_clip _ _).mono ?_
  rintro e w' ⟨rfl, rfl⟩
  go_wp2_with fail
  refine (known_text _).mono ?_
  rintro e w2 ⟨rfl, hb2⟩
  go_wp2_with fail
  go_ret
  exact ⟨rfl, blw (bal (blw (bal (Below.refl _ _) _) hb1) _) hb2⟩

end Go.Proofs.Ytaabalffcpaojaa
