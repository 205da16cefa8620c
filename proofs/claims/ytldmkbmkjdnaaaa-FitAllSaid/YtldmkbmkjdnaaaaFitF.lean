/- Layer 10: the chapter's example; the same windows; known. -/
import Derived.Test.YtldmkbmkjdnaaaaFitE
import Derived.Test.YtldmkbmkjdnaaaaStpK
namespace Go.Proofs.Ytldmkbmkjdnaaaa.Ft
open Go.RowKit Go.Shelf
open Stp
open Dag (wide_call)
set_option linter.unusedVariables false
set_option maxRecDepth 100000

theorem rsamew_any (l : List StepD) (n : Nat) (hn : l.length = n) (w : World) (A B : Option Addr) (c d : Nat) (h1 : Stp w A c l) (h2 : Stp w B d l) :
    Calls Try.prog 25 #[.slice A n c, .slice B n d] w fun e w' => e = .returned (.bool true) ∧ Below w.heap.size w w' := by
  have hnl : n ≤ 9223372036854775807 := by rw [← hn]; exact h1.lenI
  have H1 := Lib.hid h1; have H2 := Lib.hid h2; have HN := Lib.hid hn
  clear h1 h2 hn
  go_enter Try.func25, Try.ntmps25
  go_wp2
  go_loopw [5] (fun i wr => ∃ k : Nat, k ≤ n ∧ i = .int .i64 k ∧ Hid (Below w.heap.size w wr)) (fun i _ => n - (intOf i).toNat)
  case atStart => exact ⟨0, Nat.zero_le _, rfl, Lib.hid (Below.refl _ _)⟩
  case round =>
    obtain ⟨k, hk, rfl, HB⟩ := hrel
    by_cases hlt : k < n
    · obtain ⟨x, hx⟩ : ∃ x, l[k]? = some x := ⟨_, List.getElem?_eq_getElem (by rw [HN.out]; exact hlt)⟩
      obtain ⟨b1, o1, e1, c1, c2⟩ := (H1.out.below HB.out).cells k x hx
      obtain ⟨b2, o2, e2, c3, c4⟩ := (H2.out.below HB.out).cells k x hx
      subst e1 e2
      clear hx
      go_wp2_with fail
      go_quiet (fail)
      go_wp2
      go_roundw
      case rel => exact ⟨k + 1, by omega, by go_num, Lib.hid (blw HB.out (drN _ _))⟩
      case measure => simp [intOf]; omega
    · obtain rfl : k = n := by omega
      go_wp2
      go_ret
      exact ⟨rfl, HB.out⟩

def fourL : List StepD := [⟨0, 4⟩, ⟨10, 1⟩, ⟨20, 4⟩]
theorem four_any (w : World) : Calls Try.prog 40 #[] w (RetW w fourL) := by
  go_enter Try.func40, Try.ntmps40
  go_wp2
  go_ret
  exact ⟨_, _, rfl, lit3 (heap_alloc_new w _), al w _⟩
theorem f1 : firstV fourL 5 40 2 8 = 20 := by kernel_rfl
theorem f2 : firstE fourL 5 40 2 8 = 0 := by kernel_rfl
theorem f3 : firstV fourL 5 40 2 5 = 5 := by kernel_rfl
theorem f4 : firstE fourL 5 40 2 5 = 0 := by kernel_rfl
theorem f5 : lastR fourL 5 40 2 5 = 35 := by kernel_rfl
theorem f6 : allL fourL 5 40 2 5 = [⟨5, 5⟩, ⟨20, 35⟩] := by kernel_rfl
theorem f7 : reqE fourL 5 40 2 5 = 0 := by kernel_rfl
theorem f8 : firstE fourL 5 40 5 1 = 70 := by kernel_rfl
theorem f9 : firstV fourL 5 40 5 1 = 0 := by kernel_rfl
theorem lit2w {W : World} {g : Nat} {a1 a2 a3 a4 : Int} {t : TypeId} (h : W.heap[g]? = some (.cells #[.int .i64 a1, .int .i64 a2, .int .i64 a3, .int .i64 a4] t (0, 0))) : Stp W (some ⟨g, 0, none⟩) 2 [⟨a1, a2⟩, ⟨a3, a4⟩] := by
  have c := fun i => Dag.blk_cell h i
  refine ⟨fun k s hs => ?_, by simp, by decide, (fun e => by cases e)⟩
  match k, hs with
  | 0, hs => injection hs with hs; subst hs; exact ⟨g, 0, rfl, c 0, c 1⟩
  | 1, hs => injection hs with hs; subst hs; exact ⟨g, 0, rfl, c 2, c 3⟩
  | k + 2, hs => simp at hs
theorem two_keep {w w' : World} {b : Nat} {x y : Value} (h : w.cell? ⟨b, 0, none⟩ = some x ∧ w.cell? ⟨b, 1, none⟩ = some y) (hb : Below w.heap.size w w') : w'.cell? ⟨b, 0, none⟩ = some x ∧ w'.cell? ⟨b, 1, none⟩ = some y := ⟨kp hb h.1, kp hb h.2⟩
set_option maxHeartbeats 6400000 in
theorem known10_any (w : World) : Calls Try.prog 16 #[] w fun e w' => e = .returned (.bool true) ∧ Below w.heap.size w w' := by
  have HF := Lib.hid fun (W : World) => four_any W
  have H1 := Lib.hid fun (A : Option Addr) (c : Nat) (W : World) (hs : Stp W A c fourL) => first_any fourL 5 40 2 8 A 3 c rfl W hs
  have H2 := Lib.hid fun (A : Option Addr) (c : Nat) (W : World) (hs : Stp W A c fourL) => first_any fourL 5 40 2 5 A 3 c rfl W hs
  have H3 := Lib.hid fun (A : Option Addr) (c : Nat) (W : World) (hs : Stp W A c fourL) => last_any fourL 5 40 2 5 A 3 c rfl W hs
  have H4 := Lib.hid fun (A : Option Addr) (c : Nat) (W : World) (hs : Stp W A c fourL) => all_any fourL 5 40 2 5 A 3 c rfl W hs
  have H5 := Lib.hid fun (A : Option Addr) (c : Nat) (W : World) (hs : Stp W A c fourL) => first_any fourL 5 40 5 1 A 3 c rfl W hs
  have HSM := Lib.hid fun (A B : Option Addr) (c d : Nat) (W : World) (hs : Stp W A c [⟨5, 5⟩, ⟨20, 35⟩]) (hs' : Stp W B d [⟨5, 5⟩, ⟨20, 35⟩]) => rsamew_any [⟨5, 5⟩, ⟨20, 35⟩] 2 rfl W A B c d hs hs'
  unfold RetW at HF
  unfold RetW2 at H4
  rw [f1, f2] at H1
  rw [f3, f4] at H2
  rw [f5, f4] at H3
  rw [f6, f7] at H4
  rw [f9, f8] at H5
  go_enter Try.func16, Try.ntmps16
  obtain ⟨q0, q1⟩ := new2 w (.int .i64 5) (.int .i64 40) 28
  have s0 := two_keep ⟨q0, q1⟩ (dr (w.alloc (.cells #[.int .i64 5, .int .i64 40] 28)))
  have HQ0 := Lib.hid (blw (al w (.cells #[.int .i64 5, .int .i64 40] 28)) (dr _))
  clear q0 q1
  go_wp2_with fail
  go_region_held3 (fun (W : World) => W.cell? ⟨w.heap.size, 0, none⟩ = some (.int .i64 5) ∧ W.cell? ⟨w.heap.size, 1, none⟩ = some (.int .i64 40)) (first | exact s2 | exact s1 | exact s0) (first
    | (go_at_call 40; refine (HF.out _).mono ?_; rintro e x1 ⟨A1, c1, rfl, hs1, hb1⟩; have s1 := two_keep s0 hb1; have HS1 := Lib.hid hs1; have HQ1 := Lib.hid (blw HQ0.out hb1); clear hs1 hb1)
    | (go_at_call 17; refine (H1.out A1 c1 _ HS1.out).mono ?_; rintro e x2 ⟨rfl, hb2⟩; have s2 := two_keep s1 hb2; have HQ2 := Lib.hid (blw HQ1.out hb2); clear hb2))
  have s3 := two_keep s2 (dr x2)
  have HQ3 := Lib.hid (blw HQ2.out (dr x2))
  clear s2
  go_wp2_with fail
  go_region_held3 (fun (W : World) => W.cell? ⟨w.heap.size, 0, none⟩ = some (.int .i64 5) ∧ W.cell? ⟨w.heap.size, 1, none⟩ = some (.int .i64 40)) (first | exact s5 | exact s4 | exact s3) (first
    | (go_at_call 40; refine (HF.out _).mono ?_; rintro e x4 ⟨A4, c4, rfl, hs4, hb4⟩; have s4 := two_keep s3 hb4; have HS4 := Lib.hid hs4; have HQ4 := Lib.hid (blw HQ3.out hb4); clear hs4 hb4)
    | (go_at_call 17; refine (H2.out A4 c4 _ HS4.out).mono ?_; rintro e x5 ⟨rfl, hb5⟩; have s5 := two_keep s4 hb5; have HQ5 := Lib.hid (blw HQ4.out hb5); clear hb5))
  have s6 := two_keep s5 (dr x5)
  have HQ6 := Lib.hid (blw HQ5.out (dr x5))
  clear s5
  go_wp2_with fail
  go_region_held3 (fun (W : World) => W.cell? ⟨w.heap.size, 0, none⟩ = some (.int .i64 5) ∧ W.cell? ⟨w.heap.size, 1, none⟩ = some (.int .i64 40)) (first | exact s8 | exact s7 | exact s6) (first
    | (go_at_call 40; refine (HF.out _).mono ?_; rintro e x7 ⟨A7, c7, rfl, hs7, hb7⟩; have s7 := two_keep s6 hb7; have HS7 := Lib.hid hs7; have HQ7 := Lib.hid (blw HQ6.out hb7); clear hs7 hb7)
    | (go_at_call 18; refine (H3.out A7 c7 _ HS7.out).mono ?_; rintro e x8 ⟨rfl, hb8⟩; have s8 := two_keep s7 hb8; have HQ8 := Lib.hid (blw HQ7.out hb8); clear hb8))
  have s9 := two_keep s8 (dr x8)
  have HQ9 := Lib.hid (blw HQ8.out (dr x8))
  clear s8
  go_wp2_with fail
  go_region_held3 (fun (W : World) => W.cell? ⟨w.heap.size, 0, none⟩ = some (.int .i64 5) ∧ W.cell? ⟨w.heap.size, 1, none⟩ = some (.int .i64 40)) (first | exact s11 | exact s10 | exact s9) (first
    | (go_at_call 40; refine (HF.out _).mono ?_; rintro e x10 ⟨A10, c10, rfl, hs10, hb10⟩; have s10 := two_keep s9 hb10; have HS10 := Lib.hid hs10; have HQ10 := Lib.hid (blw HQ9.out hb10); clear hs10 hb10)
    | (go_at_call 24; refine (H4.out A10 c10 _ HS10.out).mono ?_; rintro e x11 ⟨AL, cL, rfl, hL, hb11⟩; have HL := Lib.hid hL; have s11 := two_keep s10 hb11; have HQ11 := Lib.hid (blw HQ10.out hb11); clear hb11 hL))
  have s12 := two_keep s11 (dr x11)
  have HQ12 := Lib.hid (blw HQ11.out (dr x11))
  clear s11
  go_wp2_with fail
  go_region_held3 (fun (W : World) => W.cell? ⟨w.heap.size, 0, none⟩ = some (.int .i64 5) ∧ W.cell? ⟨w.heap.size, 1, none⟩ = some (.int .i64 40)) (first | exact s14 | exact s13 | exact s12) (first
    | (go_at_call 40; refine (HF.out _).mono ?_; rintro e x13 ⟨A13, c13, rfl, hs13, hb13⟩; have s13 := two_keep s12 hb13; have HS13 := Lib.hid hs13; have HQ13 := Lib.hid (blw HQ12.out hb13); have HL2 := Lib.hid ((HL.out.below (dr x11)).below hb13); clear hs13 hb13)
    | (go_at_call 17; refine (H5.out A13 c13 _ HS13.out).mono ?_; rintro e x14 ⟨rfl, hb14⟩; have s14 := two_keep s13 hb14; have HQ14 := Lib.hid (blw HQ13.out hb14); have HL3 := Lib.hid (HL2.out.below hb14); clear hb14))
  go_wp2_with fail
  refine (HSM.out _ _ _ _ _ (HL3.out.below (al _ _)) (lit2w (heap_alloc_new x14 _))).mono ?_
  rintro e x15 ⟨rfl, hb15⟩
  have HQ15 := Lib.hid (blw (blw HQ14.out (al x14 _)) hb15)
  clear hb15
  go_wp2
  go_ret
  exact ⟨rfl, HQ15.out⟩
end Go.Proofs.Ytldmkbmkjdnaaaa.Ft

