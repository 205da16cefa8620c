/- The document's own Text. -/
import Derived.Test.YtaabalffcpaojaaClkText
import Derived.RegionTactic
import Derived.Deep.RegionWith
import Derived.Laws.Concat
namespace Go.Proofs.Ytaabalffcpaojaa
open Go.RowKit
set_option linter.unusedVariables false

theorem kept {W w1 : World} (hb : Below W.heap.size W w1) : ∀ b o, b < W.heap.size → w1.cell? ⟨b, o, none⟩ = W.cell? ⟨b, o, none⟩ := fun b o h => hb.cell (p := ⟨b, o, none⟩) h

theorem one_byte (W : World) (g d : Nat) (hd : d < 10) (hc : W.cell? ⟨g, 0, none⟩ = some (.int .u8 (48 + (d : Int)))) :
    (convert 46 9 (.slice (some ⟨g, 0, none⟩) 1 1)).run Try.prog W = .ok (.string ⟨#[dig d]⟩) W := by
  have := run_convert_bytes_arg (P := Try.prog) W 46 5 Try.underlying46 Try.underlying5 g 0 1 1 [48 + (d : Int)] rfl (fun i hi => by
    obtain rfl : i = 0 := by omega
    exact hc) 9 Try.underlying9
  rw [this]
  have e : strOfNums [48 + (d : Int)] = ⟨#[dig d]⟩ := by
    unfold strOfNums dig
    have : ((48 : Int) + d).toNat = 48 + d % 10 := by omega
    simp [this]
  rw [e]

theorem rtext_small (m : Nat) (w : World) (hm : m < 10) :
    Calls Try.prog 25 #[.int .i64 (m : Int)] w fun e w' => e = .returned (.string ⟨(txt m).toArray⟩) ∧ Below w.heap.size w w' := by
  have h1 := isT_yes (t := (m : Int)) (by omega) (by omega)
  rw [txt_small hm]
  have hcv := fun W g => one_byte W g m hm
  go_enter Try.func25, Try.ntmps25
  go_wp2_with (go_at_call 21; refine (ris_any _ _).mono ?_; rintro e w' ⟨rfl, rfl⟩)
  go_ret
  exact ⟨rfl, (Below.refl _ _).alloc (Nat.le_refl _) _⟩

set_option maxHeartbeats 800000 in
theorem rtext_num (f : Nat) : ∀ (m : Nat) (w : World), m ≤ f → m ≤ 1099511627775 →
    Calls Try.prog 25 #[.int .i64 (m : Int)] w fun e w' => e = .returned (.string ⟨(txt m).toArray⟩) ∧ Below w.heap.size w w' := by
  induction f with
  | zero => intro m w hf hm; exact rtext_small m w (by omega)
  | succ f ih =>
    intro m w hf hm
    have IH := Lib.hid ih; clear ih
    have h1 := isT_yes (t := (m : Int)) (by omega) (by omega)
    by_cases hlt : m < 10
    · exact rtext_small m w hlt
    · obtain ⟨q, hq⟩ : ∃ q : Nat, q = m / 10 := ⟨_, rfl⟩
      obtain ⟨d, hd⟩ : ∃ d : Nat, d = m % 10 := ⟨_, rfl⟩
      have hq1 : q ≤ f := by omega
      have hd1 : d < 10 := by omega
      have HT := Lib.hid (show txt m = txt q ++ [dig d] from by rw [txt_more hlt, ← hq, hd]; congr 2; unfold dig; congr 1; omega)
      have wq : IntKind.i64.wrap ((m : Int) / 10) = (q : Int) := by rw [IntWalk.i64_in _ (by omega)]; omega
      have tm : (m : Int).tmod 10 = (d : Int) := by rw [Int.tmod_eq_emod_of_nonneg (by omega)]; omega
      have ws : IntKind.i64.wrap (48 + (d : Int)) = 48 + (d : Int) := IntWalk.i64_in _ (by omega)
      have wu : IntKind.u8.wrap (48 + (d : Int)) = 48 + (d : Int) := by rw [IntKind.wrap_u8]; omega
      have hcv := fun W g => one_byte W g d hd1
      have hqm : q ≤ 1099511627775 := by omega
      have HB := Lib.hid (txt_bound hqm)
      have hadd := fun W => run_string_add_sum (P := Try.prog) W ⟨(txt q).toArray⟩ ⟨#[dig d]⟩ (by have := HB.out; simp [ByteArray.size]; omega)
      have HR := Lib.hid (show (⟨(txt m).toArray⟩ : ByteArray) = ⟨(txt q).toArray⟩ ++ ⟨#[dig d]⟩ from by rw [HT.out]; apply ByteArray.ext; simp)
      clear hq hd
      go_enter Try.func25, Try.ntmps25
      go_wp2_with (go_at_call 21; refine (ris_any _ _).mono ?_; rintro e w' ⟨rfl, rfl⟩)
      go_region_with (first | (go_at_call 25; refine (IH.out q _ hq1 hqm).mono ?_; rintro e w1 ⟨rfl, hb1⟩; have hc1 := kept hb1))
      all_goals go_wp2
      all_goals go_ret
      all_goals refine ⟨by rw [HR.out]; rfl, ?_⟩
      all_goals first | exact (((Below.refl _ _).drew).trans hb1).alloc hb1.size _ | (refine (((Below.refl _ _).alloc (Nat.le_refl _) _).drew).trans (hb1.mono ?_); simp)

theorem rtext_any (t : Int) (w : World) :
    Calls Try.prog 25 #[.int .i64 t] w fun e w' => e = .returned (.string ⟨(textL t).toArray⟩) ∧ Below w.heap.size w w' := by
  cases h1 : isT t
  · rw [textL_no h1]
    go_enter Try.func25, Try.ntmps25
    go_wp2_with (go_at_call 21; refine (ris_any _ _).mono ?_; rintro e w' ⟨rfl, rfl⟩)
    go_ret
    exact ⟨rfl, Below.refl _ _⟩
  · rw [textL_yes h1]
    have bt := isT_bd h1
    obtain ⟨m, rfl⟩ := Int.eq_ofNat_of_zero_le bt.1
    exact rtext_num m m w (Nat.le_refl _) (by omega)

end Go.Proofs.Ytaabalffcpaojaa
