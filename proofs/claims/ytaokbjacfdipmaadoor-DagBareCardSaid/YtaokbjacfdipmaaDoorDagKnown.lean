/- What the chapter's example fixes: known. -/
import Derived.Test.YtaokbjacfdipmaaDoorDagLev
namespace Go.Proofs.YtaokbjacfdipmaaDoor
open Go.RowKit
set_option linter.unusedVariables false

theorem new_ok (E : List (List Int)) (n : Nat) (he : E.length = n) (w : World) (A : Option Addr) (c : Nat) (h : IRows w A c E) (hn : n ≤ 30) (hlen : ∀ l ∈ E, l.length ≤ 1000) (hT : Tab w) (hE : newE E = 0) :
    Calls Tryd.prog 11 #[.slice A n c] w fun e w' => ∃ g, e = .returned (.tuple #[.pointer (some ⟨g, 0, none⟩), .int .i64 0]) ∧ Gr w' E (.pointer (some ⟨g, 0, none⟩)) ∧ Below w.heap.size w w' := by
  refine (new_any E n he w A c h hn hlen hT).mono ?_
  rintro e w' ⟨p, rfl, hb, hg, _⟩
  have hgr := hg hE
  obtain ⟨g, _, _, _, _, _, _, ep, _⟩ := hgr.ex
  subst ep
  exact ⟨g, by rw [hE], hgr, hb⟩
theorem new_bad (E : List (List Int)) (n : Nat) (he : E.length = n) (w : World) (A : Option Addr) (c : Nat) (h : IRows w A c E) (hn : n ≤ 30) (hlen : ∀ l ∈ E, l.length ≤ 1000) (hT : Tab w) (q : Int) (hE : newE E = q) (hq : q ≠ 0) :
    Calls Tryd.prog 11 #[.slice A n c] w fun e w' => e = .returned (.tuple #[.pointer none, .int .i64 q]) ∧ Below w.heap.size w w' := by
  refine (new_any E n he w A c h hn hlen hT).mono ?_
  rintro e w' ⟨p, rfl, hb, _, hg⟩
  rw [hg (by rw [hE]; exact hq), hE]
  exact ⟨rfl, hb⟩

theorem Ints.lit (w : World) (xs : List Int) {n g : Nat} (hn : xs.length = n) (hg : w.heap.size = g) (hl : n ≤ 1000) : Ints (w.alloc (.cells (ints xs).toArray 3)) (some ⟨g, 0, none⟩) n xs := by
  have := Own1.litm w w.heap.size 3 (Nat.le_refl _) (ints xs) (n := n) (g := g) (by rw [ints_len, hn]) hg (by simp only [maxLen]; omega)
  exact (OwnI.ints' this).2
theorem Ints.alloc {w : World} {A : Option Addr} {c : Nat} {xs : List Int} (h : Ints w A c xs) (o : Obj) : Ints (w.alloc o) A c xs := h.below ((Below.refl _ _).alloc (Nat.le_refl _) _)
theorem IRows.lit {w : World} {ls : List (List Int)} {vs : List Value} {n g : Nat} (hvl : vs.length = n) (hn : ls.length = n) (hg : w.heap.size = g) (hle : n ≤ 1000)
    (h : ∀ (k : Nat) (xs : List Int), ls[k]? = some xs → ∃ A' c', vs[k]? = some (.slice A' xs.length c') ∧ Ints w A' c' xs) : IRows (w.alloc (.cells vs.toArray 30)) (some ⟨g, 0, none⟩) n ls := by
  subst hg
  refine ⟨fun k xs hk => ?_, by omega, by simp only [maxLen]; omega, (fun e => by cases e)⟩
  obtain ⟨A', c', h1, h2⟩ := h k xs hk
  refine ⟨_, 0, A', c', rfl, ?_, h2.alloc _⟩
  rw [Nat.zero_add, cell_of_row _ _ k _ _ (0, 0) (heap_alloc_new w _)]
  simpa using h1

def E0 : List (List Int) := [[], [], [1], [0, 2], [1]]
def E1 : List (List Int) := [[0]]
theorem e0_new : newE E0 = 0 := by decide +kernel
theorem e1_new : newE E1 = 40 := by decide +kernel
theorem e0_order : num (order E0) = [0, 1, 2, 3, 4] := by decide +kernel
theorem e0_levels : levRows E0 = [[0, 1], [2, 4], [3]] := by decide +kernel
theorem e0_far (u : Nat) (hu : u < 5) : FarP (rev E0) [1] u ↔ u = 2 ∨ u = 3 ∨ u = 4 := by
  have hr : rev E0 = [[3], [2, 4], [3], [], []] := by decide +kernel
  rw [hr]
  constructor
  · rintro ⟨s, hs, h1, h2⟩
    have hs1 : s = 1 := by simp at h1; omega
    subst hs1
    refine Plus.closed (T := fun u => u = 2 ∨ u = 3 ∨ u = 4) h2 (fun u hu => ?_) fun x u hx hu => ?_
    · rw [arc_iff] at hu; simp [row] at hu; omega
    · rw [arc_iff] at hu
      rcases hx with rfl | rfl | rfl <;> simp [row] at hu <;> omega
  · have a2 : Plus (arc [[3], [2, 4], [3], [], []]) 1 2 := .one (by decide)
    rintro (rfl | rfl | rfl)
    · exact ⟨1, by decide, by decide, a2⟩
    · exact ⟨1, by decide, by decide, .step a2 (by decide)⟩
    · exact ⟨1, by decide, by decide, .one (by decide)⟩
theorem e0_below {p : Nat → Bool} (h : ∀ u, u < 5 → (p u = true ↔ FarP (rev E0) [1] u)) : num ((List.range 5).filter p) = [2, 3, 4] := by
  have e : (List.range 5).filter p = (List.range 5).filter fun u => decide (u = 2 ∨ u = 3 ∨ u = 4) := by
    apply List.filter_congr
    intro u hu
    have hu' : u < 5 := by simpa using hu
    rw [Bool.eq_iff_iff, h u hu', e0_far u hu', decide_eq_true_eq]
  rw [e]; decide

theorem al (w : World) (o : Obj) : Below w.heap.size w (w.alloc o) := (Below.refl _ _).alloc (Nat.le_refl _) _
theorem e0_rows (w : World) : IRows ((((((w.alloc (.cells #[] 3)).alloc (.cells #[] 3)).alloc (.cells #[.int .i64 1] 3)).alloc (.cells #[.int .i64 0, .int .i64 2] 3)).alloc (.cells #[.int .i64 1] 3)).alloc
      (.cells #[.slice (some ⟨w.heap.size, 0, none⟩) 0 0, .slice (some ⟨w.heap.size + 1, 0, none⟩) 0 0, .slice (some ⟨w.heap.size + 1 + 1, 0, none⟩) 1 1, .slice (some ⟨w.heap.size + 1 + 1 + 1, 0, none⟩) 2 2, .slice (some ⟨w.heap.size + 1 + 1 + 1 + 1, 0, none⟩) 1 1] 30))
    (some ⟨w.heap.size + 1 + 1 + 1 + 1 + 1, 0, none⟩) 5 E0 := by
  refine IRows.lit (vs := [_, _, _, _, _]) rfl rfl (by simp) (by decide) fun k xs hk => ?_
  match k, hk with
  | 0, hk => injection hk with hk; subst hk; exact ⟨_, _, rfl, ((((Ints.lit w [] rfl rfl (by decide)).alloc _).alloc _).alloc _).alloc _⟩
  | 1, hk => injection hk with hk; subst hk; exact ⟨_, _, rfl, (((Ints.lit (w.alloc _) [] rfl (by simp) (by decide)).alloc _).alloc _).alloc _⟩
  | 2, hk => injection hk with hk; subst hk; exact ⟨_, _, rfl, ((Ints.lit ((w.alloc _).alloc _) [1] rfl (by simp) (by decide)).alloc _).alloc _⟩
  | 3, hk => injection hk with hk; subst hk; exact ⟨_, _, rfl, (Ints.lit (((w.alloc _).alloc _).alloc _) [0, 2] rfl (by simp) (by decide)).alloc _⟩
  | 4, hk => injection hk with hk; subst hk; exact ⟨_, _, rfl, Ints.lit ((((w.alloc _).alloc _).alloc _).alloc _) [1] rfl (by simp) (by decide)⟩
  | k + 5, hk => simp [E0] at hk
theorem e1_rows (w : World) : IRows ((w.alloc (.cells #[.int .i64 0] 3)).alloc (.cells #[.slice (some ⟨w.heap.size, 0, none⟩) 1 1] 30)) (some ⟨w.heap.size + 1, 0, none⟩) 1 E1 := by
  refine IRows.lit (vs := [_]) rfl rfl (by simp) (by decide) fun k xs hk => ?_
  match k, hk with
  | 0, hk => injection hk with hk; subst hk; exact ⟨_, _, rfl, Ints.lit w [0] rfl rfl (by decide)⟩
  | k + 1, hk => simp [E1] at hk
theorem lv_rows (w : World) : IRows ((((w.alloc (.cells #[.int .i64 0, .int .i64 1] 3)).alloc (.cells #[.int .i64 2, .int .i64 4] 3)).alloc (.cells #[.int .i64 3] 3)).alloc
      (.cells #[.slice (some ⟨w.heap.size, 0, none⟩) 2 2, .slice (some ⟨w.heap.size + 1, 0, none⟩) 2 2, .slice (some ⟨w.heap.size + 1 + 1, 0, none⟩) 1 1] 30))
    (some ⟨w.heap.size + 1 + 1 + 1, 0, none⟩) 3 [[0, 1], [2, 4], [3]] := by
  refine IRows.lit (vs := [_, _, _]) rfl rfl (by simp) (by decide) fun k xs hk => ?_
  match k, hk with
  | 0, hk => injection hk with hk; subst hk; exact ⟨_, _, rfl, ((Ints.lit w [0, 1] rfl rfl (by decide)).alloc _).alloc _⟩
  | 1, hk => injection hk with hk; subst hk; exact ⟨_, _, rfl, (Ints.lit (w.alloc _) [2, 4] rfl (by simp) (by decide)).alloc _⟩
  | 2, hk => injection hk with hk; subst hk; exact ⟨_, _, rfl, Ints.lit ((w.alloc _).alloc _) [3] rfl (by simp) (by decide)⟩
  | k + 3, hk => simp at hk

set_option maxRecDepth 100000 in
set_option maxHeartbeats 4000000 in
theorem known_any (w : World) (hT : Tab w) : Calls Tryd.prog 10 #[] w (RetTrue w) := by
  have HT := Lib.hid hT; clear hT
  have hr0 := e0_rows w
  have hb0 := blw (blw (blw (blw (blw (al w (.cells #[] 3)) (al _ (.cells #[] 3))) (al _ (.cells #[.int .i64 1] 3))) (al _ (.cells #[.int .i64 0, .int .i64 2] 3))) (al _ (.cells #[.int .i64 1] 3)))
    (al _ (.cells #[.slice (some ⟨w.heap.size, 0, none⟩) 0 0, .slice (some ⟨w.heap.size + 1, 0, none⟩) 0 0, .slice (some ⟨w.heap.size + 1 + 1, 0, none⟩) 1 1, .slice (some ⟨w.heap.size + 1 + 1 + 1, 0, none⟩) 2 2, .slice (some ⟨w.heap.size + 1 + 1 + 1 + 1, 0, none⟩) 1 1] 30))
  have HR0 := Lib.hid hr0
  have HB0 := Lib.hid hb0
  clear hr0 hb0
  go_enter Tryd.func10, Tryd.ntmps10
  go_wp2_with fail
  refine (new_ok E0 5 rfl _ _ _ HR0.out (by decide) (by decide) (HT.out.below HB0.out HT.out.lt) e0_new).mono ?_
  rintro e w1 ⟨g, rfl, hg, hb⟩
  have HG := Lib.hid hg
  have HB1 := Lib.hid (blw HB0.out hb)
  clear hg hb HR0 HB0
  have HR1 := Lib.hid (e1_rows w1)
  have HB2 := Lib.hid (blw (al w1 (.cells #[.int .i64 0] 3)) (al _ (.cells #[.slice (some ⟨w1.heap.size, 0, none⟩) 1 1] 30)))
  go_wp2_with fail
  refine (new_bad E1 1 rfl _ _ _ HR1.out (by decide) (by decide) (HT.out.below (blw HB1.out HB2.out) HT.out.lt) 40 e1_new (by decide)).mono ?_
  rintro e w2 ⟨rfl, hb2⟩
  have HB3 := Lib.hid (blw HB2.out hb2)
  clear hb2 HR1 HB2
  go_wp2_with fail
  refine (order_any _ E0 _ (HG.out.below HB3.out) (by decide)).mono ?_
  rw [e0_order]
  rintro e w3 ⟨A3, c3, rfl, hi3, hb3⟩
  have HI3 := Lib.hid hi3
  have HB4 := Lib.hid (blw HB3.out hb3)
  clear hi3 hb3 HB3
  have HL3 := Lib.hid (Ints.lit w3 [0, 1, 2, 3, 4] (n := 5) (g := w3.heap.size) rfl rfl (by decide))
  go_wp2_with fail
  refine (same_any [0, 1, 2, 3, 4] _ _ rfl rfl _ _ _ _ _ (HI3.out.alloc _) HL3.out).mono ?_
  rintro e w4 ⟨rfl, hb4⟩
  have HB5 := Lib.hid (blw (blw HB4.out (al w3 _)) hb4)
  clear hb4 HB4 HI3 HL3
  go_wp2_with fail
  refine (levels_any _ E0 _ (HG.out.below HB5.out) (by decide)).mono ?_
  rw [e0_levels]
  rintro e w5 ⟨A5, c5, rfl, hi5, hb5⟩
  have HI5 := Lib.hid hi5
  have HB6 := Lib.hid (blw HB5.out hb5)
  clear hi5 hb5 HB5
  have HL5 := Lib.hid (lv_rows w5)
  have HBX := Lib.hid (blw (blw (blw (al w5 (.cells #[.int .i64 0, .int .i64 1] 3)) (al _ (.cells #[.int .i64 2, .int .i64 4] 3))) (al _ (.cells #[.int .i64 3] 3))) (al _ (.cells #[.slice (some ⟨w5.heap.size, 0, none⟩) 2 2, .slice (some ⟨w5.heap.size + 1, 0, none⟩) 2 2, .slice (some ⟨w5.heap.size + 1 + 1, 0, none⟩) 1 1] 30)))
  go_wp2_with fail
  refine (sameL_any [[0, 1], [2, 4], [3]] _ _ rfl rfl _ _ _ _ _ (HI5.out.below HBX.out) HL5.out).mono ?_
  rintro e w6 ⟨rfl, hb6⟩
  have HB7 := Lib.hid (blw (blw HB6.out HBX.out) hb6)
  clear hb6 HB6 HI5 HL5 HBX
  have HL6 := Lib.hid (Ints.lit w6 [1] (n := 1) (g := w6.heap.size) rfl rfl (by decide))
  go_wp2_with fail
  refine (below_any _ E0 _ (HG.out.below (blw HB7.out (al w6 _))) (by decide) [1] 1 rfl _ _ HL6.out (HT.out.below (blw (blw HB1.out HB7.out) (al w6 _)) HT.out.lt)).mono ?_
  rintro e w7 ⟨p, A7, c7, hp, rfl, hi7, hb7⟩
  have e7 := e0_below hp
  rw [show E0.length = 5 from rfl, e7] at hi7
  have HI7 := Lib.hid hi7
  have HB8 := Lib.hid (blw (blw HB7.out (al w6 _)) hb7)
  have hl7 : (num ((List.range E0.length).filter p)).length = 3 := by rw [show E0.length = 5 from rfl, e7]; rfl
  rw [hl7]
  clear hi7 hb7 hp e7 hl7 HB7 HL6
  have HL7 := Lib.hid (Ints.lit w7 [2, 3, 4] (n := 3) (g := w7.heap.size) rfl rfl (by decide))
  go_wp2_with fail
  refine (same_any [2, 3, 4] _ _ rfl rfl _ _ _ _ _ (HI7.out.alloc _) HL7.out).mono ?_
  rintro e w8 ⟨rfl, hb8⟩
  have HB9 := Lib.hid (blw (blw HB8.out (al w7 _)) hb8)
  clear hb8 HB8 HI7 HL7
  go_wp2_with fail
  refine (len_nil _).mono ?_
  rintro e w9 ⟨rfl, rfl⟩
  go_wp2
  go_ret
  exact ⟨rfl, blw HB1.out HB9.out⟩

end Go.Proofs.YtaokbjacfdipmaaDoor
