/- Sets joined, copied; one number laid into a set's own word. -/
import Derived.Test.YtaokbjacfdipmaaDoorDagGet
import Derived.Test.YtaokbjacfdipmaaDoorDagKnown
namespace Go.Proofs.YtaokbjacfdipmaaDoor
open Go.RowKit
set_option linter.unusedVariables false

set_option maxHeartbeats 800000 in
theorem addO_any (g u wd c : Nat) (w : World) (hc : w.cell? ⟨g, 0, none⟩ = some (.int .u64 (wd : Int))) (hf : w.frozen? ⟨g, 0, none⟩ = false) (hu : u < 30) (hwd : wd < 1073741824) :
    Calls Tryd.prog 40 #[.slice (some ⟨g, 0, none⟩) 1 c, .int .i64 (u : Int)] w (RetWr w g (.int .u64 ((wd ||| 2 ^ u : Nat) : Int))) := by
  have q1 : (u : Int) / 64 = 0 := by omega
  have q2 : (u : Int) % 64 = u := by omega
  have hb := pow_bd hu
  have q4 := u64_or_nat wd (2 ^ u) (by omega) (by omega)
  rw [← shl_lit u hu] at q4
  have hv : (u : Int) < 30 := by omega
  have Q4 := Lib.hid q4; clear q4
  clear hb
  go_enter Tryd.func40, Tryd.ntmps40
  go_wp2
  go_region
  rw [Q4.out]
  go_end0
  exact ⟨⟨_, rfl⟩, rfl, rfl, rfl, rfl⟩

set_option maxHeartbeats 1600000 in
theorem join_any (g h a b c : Nat) (w : World) (hw : Word w g a) (hc : w.cell? ⟨h, 0, none⟩ = some (.int .u64 (b : Int))) (ha : a < 1073741824) (hb : b < 1073741824) :
    Calls Tryd.prog 38 #[.slice (some ⟨g, 0, none⟩) 1 1, .slice (some ⟨h, 0, none⟩) 1 c] w (RetWr w g (.int .u64 ((a ||| b : Nat) : Int))) := by
  have hg := hw.cell
  have hf := hw.frozen
  have q4 := u64_or_nat a b (by omega) (by omega)
  have Q4 := Lib.hid q4; clear q4
  clear hw
  go_enter Tryd.func38, Tryd.ntmps38
  go_wp2
  go_loopw [8] (fun i wr => (i = .int .i64 0 ∧ wr = w) ∨ (i = .int .i64 1 ∧ wr = w.setCell ⟨g, 0, none⟩ (.int .u64 ((a ||| b : Nat) : Int)))) (fun i _ => 1 - (intOf i).toNat)
  case atStart => exact Or.inl ⟨rfl, rfl⟩
  case round =>
    rcases hrel with ⟨rfl, rfl⟩ | ⟨rfl, rfl⟩
    · go_wp2
      rw [Q4.out]
      go_roundw
      case rel => exact Or.inr ⟨rfl, rfl⟩
      case measure => simp [intOf]
    · go_wp2
      go_end0
      exact ⟨⟨_, rfl⟩, rfl, rfl, rfl, rfl⟩

set_option maxHeartbeats 800000 in
theorem cloneS_any (x : Value) (hx : x.oneCell' = true) (w : World) (a : Addr) (c : Nat) (h : Sl w (some a) c [x]) :
    Calls Tryd.prog 39 #[.slice (some a) 1 c] w fun e w' => ∃ A9 c9, e = .returned (.slice A9 1 c9) ∧ Own1 w' w.heap.size 62 (.slice A9 1 c9) [x] ∧ Below w.heap.size w w' := by
  have q30 := fun (W : World) (a : Option Addr) (n c n' c' : Nat) => Lib.run_eql_slice_nil W 58 62 a n c n' c' Tryd.underlying58
  have H := Lib.hid h; clear h
  have own0 : Own1 (w.alloc (.cells #[] 62)) w.heap.size 62 (.slice (some ⟨w.heap.size, 0, none⟩) 0 0) [] := by
    have := Own1.lit w w.heap.size 62 (Nat.le_refl _) [] (by simp [maxLen])
    simpa using this
  have OWN := Lib.hid own0; clear own0
  go_enter Tryd.func39, Tryd.ntmps39
  go_wp2_with (at_builtin; refine wpList_appg rfl _ _ 58 62 (.int .u64 0) 8 Tryd.underlying58 info_u64 rfl (by decide) rfl w.heap.size (.slice (some ⟨w.heap.size, 0, none⟩) 0 0) [] rfl OWN.out (some a) c 1 [x] rfl rfl (Sl.below H.out ((Below.refl _ _).alloc (Nat.le_refl _) _)) (by intro u hu; simp at hu; subst hu; exact hx) (by simp) (by simp) ?_; intro l A9 c9 w9 el ho9 hg9 hb9 hbl9; have HO9 := Lib.hid ho9; have HBL := Lib.hid hbl9; have EL := Lib.hid el; clear ho9 hg9 hb9 hbl9 el)
  go_ret
  have el : l = [x] := by rw [EL.out, List.nil_append]
  subst el
  exact ⟨A9, c9, rfl, HO9.out, ((Below.refl _ _).alloc (Nat.le_refl _) _).trans HBL.out⟩

end Go.Proofs.YtaokbjacfdipmaaDoor
