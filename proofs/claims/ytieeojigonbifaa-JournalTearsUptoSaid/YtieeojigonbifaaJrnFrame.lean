/- Frames: a number's four bytes, copies, the frame of a record: the program's and the document's. -/
import Derived.Test.YtieeojigonbifaaJrnSum
import Derived.Laws.Cover3
import Derived.Laws.MakeOwn
namespace Go.Proofs.Ytieeojigonbifaa
open Go.RowKit
set_option linter.unusedVariables false

/-- what a call hands back that makes a slice of bytes of its own -/
def RetB (w : World) (xs : List Int) (e : Ending) (w' : World) : Prop :=
  ∃ A c, e = .returned (.slice A xs.length c) ∧ OwnB w' w.heap.size (.slice A xs.length c) xs ∧ Below w.heap.size w w'
def RetBE (w : World) (xs : List Int) (n : Int) (e : Ending) (w' : World) : Prop :=
  ∃ A c, e = .returned (.tuple #[.slice A xs.length c, .int .i64 n]) ∧ OwnB w' w.heap.size (.slice A xs.length c) xs ∧ Below w.heap.size w w'

set_option maxHeartbeats 800000 in
theorem rfour_any (n : Int) (w : World) (h0 : 0 ≤ n) (h1 : n ≤ 4294967295) :
    Calls Try.prog 30 #[.int .i64 n] w (RetB w (four n)) := by
  go_enter Try.func30, Try.ntmps30
  go_wp2
  go_ret
  exact ⟨_, 4, rfl, OwnB.lit w _ (Nat.le_refl _) (four n) (four_bts h0 h1) (by simp [maxLen, four]), (Below.refl _ _).alloc (Nat.le_refl _) _⟩

theorem run_eq_nil (a : Option Addr) (l c : Nat) (W : World) : (binOp .eql 22 (.slice a l c) (.slice none 0 0)).run Try.prog W = .ok (.bool a.isNone) W := by
  simp only [binOp]
  simp [run_equal_slice_nil W _ _ a l c Try.underlying22]

set_option maxHeartbeats 800000 in
theorem clone_any (R : Nat → Prop) (A : Option Addr) (c : Nat) (xs : List Int) (n : Nat) (w : World) (h : Byts w R A c xs) (hn : xs.length = n) (hl : n ≤ 90000000) :
    Calls Try.prog 32 #[.slice A n c] w (RetB w xs) := by
  subst hn
  rcases A with _ | ad
  · have hx : xs = [] := List.eq_nil_of_length_eq_zero (by have := h.cap; have := h.nil rfl; omega)
    subst hx
    clear h
    have he := run_eq_nil none 0 c
    go_enter Try.func32, Try.ntmps32
    go_wp2
    go_ret
    exact ⟨none, 0, rfl, OwnB.nil _ _, Below.refl _ _⟩
  · have H := Lib.hid h; clear h
    have he := run_eq_nil (some ad) xs.length c
    go_enter Try.func32, Try.ntmps32
    go_wp2_with (at_builtin; refine wpList_appb rfl _ _ rfl w.heap.size (.slice (some ⟨w.heap.size, 0, none⟩) 0 0) [] rfl (OwnB.lit w w.heap.size (Nat.le_refl _) [] Bts.nil (by simp [maxLen])) _ _ _ R xs rfl rfl (H.out.alloc _) (by simp; omega) (by simp) ?_; intro l A' c' w' el ho hg hb hw; have EL := Lib.hid el; clear el)
    go_ret
    obtain rfl : l = xs := by have := EL.out; simpa using this
    exact ⟨A', c', rfl, ho, ((Below.refl _ _).alloc (Nat.le_refl _) _).trans hw⟩

set_option maxHeartbeats 800000 in
theorem rcopy_any (R : Nat → Prop) (A : Option Addr) (c : Nat) (xs : List Int) (n : Nat) (w : World) (h : Byts w R A c xs) (hn : xs.length = n) (hl : n ≤ 90000000) :
    Calls Try.prog 28 #[.slice A n c] w (RetB w xs) := by
  subst hn
  have H := Lib.hid h; clear h
  go_enter Try.func28, Try.ntmps28
  go_wp2_with (at_builtin; refine wpList_appb rfl _ _ rfl w.heap.size (.slice none 0 0) [] rfl (OwnB.nil w w.heap.size) _ _ _ R xs rfl rfl H.out (by simp; omega) (Nat.le_refl _) ?_; intro l A' c' w' el ho hg hb hw; have EL := Lib.hid el; clear el)
  go_ret
  obtain rfl : l = xs := by have := EL.out; simpa using this
  exact ⟨A', c', rfl, ho, hw⟩

theorem Byts.lit (w : World) (xs : List Int) (hx : Bts xs) (hl : xs.length ≤ maxLen) : Byts (w.alloc (.cells (xs.map (Value.int .u8)).toArray 5)) (fun b => w.heap.size ≤ b) (some ⟨w.heap.size, 0, none⟩) xs.length xs := by
  obtain ⟨A, c, e, h⟩ := (OwnB.lit w w.heap.size (Nat.le_refl _) xs hx hl).byts
  injection e with e1 e2 e3
  subst e1 e3
  exact h.mono fun b _ h => h.1
theorem sum_at (R : Nat → Prop) (A : Option Addr) (c n : Nat) (ls : List (List Int)) (s : Int) (w : World) (h : Rws w R A c ls) (hn : ls.length = n) (hs : sumA ls.flatten = s) :
    Calls Try.prog 13 #[.slice A n c] w fun e w' => e = .returned (.int .u32 s) ∧ w = w' := by
  subst hn hs
  exact sum_any R A c ls w h
theorem byts_of {w : World} {base : Nat} {A : Option Addr} {n c : Nat} {xs : List Int} (h : OwnB w base (.slice A n c) xs) : Byts w (fun _ => True) A c xs := by
  obtain ⟨A9, c9, e9, hB⟩ := h.byts
  injection e9 with ea eb ec
  subst ea ec
  exact hB.any
theorem byts_new {w : World} {base : Nat} {A : Option Addr} {n c : Nat} {xs : List Int} (h : OwnB w base (.slice A n c) xs) : Byts w (fun b => base ≤ b) A c xs := by
  obtain ⟨A9, c9, e9, hB⟩ := h.byts
  injection e9 with ea eb ec
  subst ea ec
  exact hB.mono fun b _ h => h.1
/-- appendWord onto a row of the caller's own -/
def RetW (w : World) (base : Nat) (xs : List Int) (e : Ending) (w' : World) : Prop :=
  ∃ l A c, l = xs ∧ e = .returned (.slice A l.length c) ∧ OwnB w' base (.slice A l.length c) l ∧ Below base w w'
set_option maxHeartbeats 800000 in
theorem appendWord_any (base : Nat) (A : Option Addr) (c n : Nat) (xs : List Int) (m : Int) (w : World) (h : OwnB w base (.slice A n c) xs) (hn : xs.length = n) (hl : n ≤ 90000000) (hbs : base ≤ w.heap.size) (h0 : 0 ≤ m) (h1 : m ≤ 4294967295) :
    Calls Try.prog 29 #[.slice A n c, .int .u32 m] w (RetW w base (xs ++ four m)) := by
  subst hn
  have H := Lib.hid h; clear h
  go_enter Try.func29, Try.ntmps29
  go_wp2_with (at_builtin; refine wpList_appb rfl _ _ rfl base (.slice A xs.length c) xs rfl (H.out.alloc _) _ 4 4 (fun b => w.heap.size ≤ b) (four m) rfl rfl (Byts.lit w (four m) (four_bts h0 h1) (by simp [maxLen, four])) (by simp [four]; omega) (by simp; omega) ?_; intro l A' c' w' el ho hg hb hw; have EL := Lib.hid el; clear el)
  go_ret
  exact ⟨l, A', c', EL.out, rfl, ho, ((Below.refl _ _).alloc hbs _).trans hw⟩

theorem frame_long (A : Option Addr) (c n : Nat) (w : World) (h : 65536 < n) (hn : n ≤ 9223372036854775807) :
    Calls Try.prog 11 #[.slice A n c] w fun e w' => e = .returned (.tuple #[.slice none 0 0, .int .i64 3]) ∧ w = w' := by
  go_enter Try.func11, Try.ntmps11
  go_wp2
  go_ret2
  exact ⟨rfl, rfl⟩

set_option maxHeartbeats 1000000 in
theorem frame_any (R : Nat → Prop) (A : Option Addr) (c n : Nat) (x : List Int) (w : World) (h : Byts w R A c x) (hn : x.length = n) (hl : n ≤ 65536) :
    Calls Try.prog 11 #[.slice A n c] w (RetBE w (frame x) 0) := by
  subst hn
  have H := Lib.hid h; clear h
  obtain ⟨i0, hi0, hz0, hz1, hz2⟩ := info_parts info_u8
  have HI0 := Lib.hid hi0; have HZ0 := Lib.hid hz0; have HZ1 := Lib.hid hz1; have HZ2 := Lib.hid hz2; clear hi0 hz0 hz1 hz2
  go_enter Try.func11, Try.ntmps11
  go_wp2_with (at_make; refine wpList_make_own _ rfl _ _ 22 rfl w.heap.size 5 i0 (.int .u8 0) 1 Try.underlying22 HI0.out HZ0.out HZ1.out _ _ _ (8 + x.length) rfl rfl (by omega) (by rw [HZ2.out]; omega) (by unfold maxLen; omega) (Nat.le_refl _) ?_; intro w0 h0 hg0)
  have hw0 : Below w.heap.size w w0 := (Below.refl _ _).grown hg0 (Nat.le_refl _) (fun k e => by cases e)
  refine (appendWord_any w.heap.size _ _ _ [] _ _ ⟨h0, Bts.nil⟩ rfl (by omega) hw0.size (by omega) (by omega)).mono ?_
  rintro e w1 ⟨l1, A1, c1, el1, rfl, ho1, hb1⟩
  have hw1 := hw0.trans hb1
  have EL1 := Lib.hid el1; clear el1
  have hl1 : l1.length ≤ 4 := by rw [EL1.out]; simp [four]
  obtain ⟨s, hs⟩ : ∃ s, sumA (four (x.length : Int) ++ x) = s := ⟨_, rfl⟩
  have hs0 : 0 ≤ s ∧ s ≤ 4294967295 := by rw [← hs]; exact sumA_bd _
  have hs1 := hs0.1
  have hs2 := hs0.2
  have HS := Lib.hid hs; clear hs hs0
  have HO1 := Lib.hid ho1; clear ho1
  go_wp2_with fail
  obtain ⟨A2, c2, e2, hB1⟩ := HO1.out.byts
  injection e2 with ea eb ec
  subst ea ec
  refine (sum_at (fun _ => True) _ _ _ [l1, x] s _ (Rws.two hB1.any ((H.out.below hw1).any) rfl rfl rfl trivial) rfl (by rw [← HS.out, EL1.out]; simp)).mono ?_
  rintro e w2 ⟨rfl, rfl⟩
  clear hB1 eb
  go_wp2_with fail
  refine (appendWord_any w.heap.size _ _ _ l1 _ _ (HO1.out.alloc _) rfl (by omega) (by have := hw1.size; simp; omega) hs1 hs2).mono ?_
  rintro e w2 ⟨l2, A2, c2, el2, rfl, ho2, hb2⟩
  have hw2 : Below w.heap.size w w2 := (hw1.alloc hw1.size _).trans hb2
  have EL2 := Lib.hid el2; clear el2
  have hl2 : l2.length ≤ 8 := by rw [EL2.out]; simp [four]; omega
  have HO2 := Lib.hid ho2; clear ho2
  go_wp2_with (at_builtin; refine wpList_appb rfl _ _ rfl w.heap.size (.slice A2 l2.length c2) l2 rfl HO2.out A c x.length R x rfl rfl (H.out.below hw2) (by omega) hw2.size ?_; intro l A' c' w' el ho hg hb hw; have EL := Lib.hid el; clear el)
  go_ret2
  obtain rfl : l = frame x := by rw [EL.out, EL2.out, EL1.out, ← HS.out]; simp [frame]
  exact ⟨A', c', rfl, ho, hw2.trans hw⟩

theorem rframe_long (A : Option Addr) (c n : Nat) (w : World) (h : 65536 < n) (hn : n ≤ 9223372036854775807) :
    Calls Try.prog 12 #[.slice A n c] w fun e w' => e = .returned (.tuple #[.slice none 0 0, .int .i64 3]) ∧ w = w' := by
  go_enter Try.func12, Try.ntmps12
  go_wp2
  go_ret2
  exact ⟨rfl, rfl⟩

theorem rfour_at (n : Int) (l : List Int) (w : World) (h0 : 0 ≤ n) (h1 : n ≤ 4294967295) (hl : four n = l) : Calls Try.prog 30 #[.int .i64 n] w (RetB w l) := by
  subst hl; exact rfour_any n w h0 h1

set_option maxHeartbeats 1000000 in
theorem rframe_any (R : Nat → Prop) (A : Option Addr) (c n : Nat) (x : List Int) (w : World) (h : Byts w R A c x) (hn : x.length = n) (hl : n ≤ 65536) :
    Calls Try.prog 12 #[.slice A n c] w (RetBE w (frame x) 0) := by
  subst hn
  have H := Lib.hid h; clear h
  obtain ⟨l1, el1⟩ : ∃ l, four (x.length : Int) = l := ⟨_, rfl⟩
  have hl1 : l1.length ≤ 4 := by rw [← el1]; simp [four]
  have EL1 := Lib.hid el1; clear el1
  go_enter Try.func12, Try.ntmps12
  go_wp2_with fail
  refine (rfour_at _ l1 _ (by omega) (by omega) EL1.out).mono ?_
  rintro e w1 ⟨A1, c1, rfl, ho1, hw1⟩
  have HO1 := Lib.hid ho1; clear ho1
  go_wp2_with fail
  obtain ⟨A9, c9, e9, hB1⟩ := HO1.out.byts
  injection e9 with ea eb ec
  subst ea ec
  refine (rcopy_any _ _ _ l1 _ _ hB1 rfl (by omega)).mono ?_
  rintro e w2 ⟨A2, c2, rfl, ho2, hw2⟩
  clear hB1 eb
  have hw2' := blw hw1 hw2
  have HO2 := Lib.hid ho2; clear ho2
  go_wp2_with (at_builtin; refine wpList_appb rfl (.tmp 14) (.tmp 15) rfl w1.heap.size (.slice A2 l1.length c2) l1 rfl HO2.out A c x.length R x rfl rfl (H.out.below hw2') (by omega) hw2.size ?_; intro l3 A3 c3 w3 el3 ho3 hg3 hb3 hw3; have EL3 := Lib.hid el3; clear el3)
  obtain ⟨s, hs⟩ : ∃ s, sumA l3 = s := ⟨_, rfl⟩
  have hs0 : 0 ≤ s ∧ s ≤ 4294967295 := by rw [← hs]; exact sumA_bd _
  obtain ⟨A9, c9, e9, hB3⟩ := ho3.byts
  injection e9 with ea eb ec
  subst ea ec
  have hl3 : l3.length ≤ 66000 := by rw [EL3.out, List.length_append]; omega
  refine (rsum_any _ _ _ l3 _ hB3 hl3).mono ?_
  rintro e w4 ⟨rfl, rfl⟩
  rw [hs]
  clear hB3 eb
  have hs1 := hs0.1
  have hs2 := hs0.2
  have HS := Lib.hid hs; clear hs hs0
  obtain ⟨l4, el4⟩ : ∃ l, four s = l := ⟨_, rfl⟩
  have hl4 : l4.length ≤ 4 := by rw [← el4]; simp [four]
  have EL4 := Lib.hid el4; clear el4
  go_wp2_with fail
  refine (rfour_at _ l4 _ hs1 hs2 EL4.out).mono ?_
  rintro e w5 ⟨A5, c5, rfl, ho5, hw5⟩
  have hw13 : Below w1.heap.size w1 w3 := hw2.trans hw3
  have hw15 : Below w1.heap.size w1 w5 := hw13.trans (hw5.mono hw13.size)
  have hw05 : Below w.heap.size w w5 := blw hw1 hw15
  have HO5 := Lib.hid ho5; clear ho5
  go_wp2_with (at_builtin; first
    | (refine wpList_appb rfl (.tmp 17) (.tmp 20) rfl w.heap.size (.slice A1 l1.length c1) l1 rfl (HO1.out.below hw15) A5 c5 l4.length (fun _ => True) l4 rfl rfl (byts_of HO5.out) (by omega) hw05.size ?_; intro l6 A6 c6 w6 el6 ho6 hg6 hb6 hw6; have EL6 := Lib.hid el6; clear el6; have hl6 : l6.length ≤ 8 := (by rw [EL6.out, List.length_append]; omega))
    | (refine wpList_appb rfl (.tmp 22) (.tmp 23) rfl w.heap.size (.slice A6 l6.length c6) l6 rfl ho6 A c x.length R x rfl rfl (H.out.below (hw05.trans hw6)) (by omega) (hw05.trans hw6).size ?_; intro l7 A7 c7 w7 el7 ho7 hg7 hb7 hw7; have EL7 := Lib.hid el7; clear el7))
  go_ret2
  obtain rfl : l7 = frame x := by rw [EL7.out, EL6.out, ← EL4.out, ← HS.out, EL3.out, ← EL1.out]; simp [frame]
  exact ⟨A7, c7, rfl, ho7, (hw05.trans hw6).trans hw7⟩

end Go.Proofs.Ytieeojigonbifaa
