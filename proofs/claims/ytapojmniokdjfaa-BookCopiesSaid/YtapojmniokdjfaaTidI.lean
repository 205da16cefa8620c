/- steps.Tidy of none. -/
import Derived.Test.YtapojmniokdjfaaTidG
namespace Go.Proofs.Ytapojmniokdjfaa.Stp
open Go.RowKit Go.Shelf Go.Proofs.Ytapojmniokdjfaa.Srt
set_option linter.unusedVariables false
set_option maxRecDepth 100000
theorem clone0_any (A : Option Addr) (c : Nat) (w : World) :
    Calls Try.prog 33 #[.slice A 0 c] w fun e w' => ∃ A' c', e = .returned (.slice A' 0 c') ∧ Below w.heap.size w w' := by
  obtain ⟨i0, hi0, hz0, hz1, hz2⟩ := info_parts info_step
  have HI0 := Lib.hid hi0; have HZ0 := Lib.hid hz0; have HZ1 := Lib.hid hz1; have HZ2 := Lib.hid hz2
  have q22 : ∀ (w : World) (a : Option Addr) (n c n' c' : Nat), (binOp .eql 38 (.slice a n c) (.slice none n' c')).run Try.prog w = .ok (.bool a.isNone) w := fun w a n c n' c' => Lib.run_eql_slice_nil w _ _ a n c n' c' Try.underlying38
  clear hi0 hz0 hz1 hz2
  cases A with
  | none =>
    go_enter Try.func33, Try.ntmps33
    go_wp2
    go_ret
    exact ⟨none, 0, rfl, Below.refl _ _⟩
  | some ad =>
    go_enter Try.func33, Try.ntmps33
    go_wp2_with (at_builtin; refine wpList_append_own_at _ rfl _ _ 38 rfl w.heap.size 58 i0 (.agg #[.int .i64 0, .int .i64 0]) 2 16 Try.underlying38 HI0.out HZ0.out HZ1.out HZ2.out rfl (by decide) (.slice (some ⟨w.heap.size, 0, none⟩) 0 0) 0 [] rfl (World.ownsRow_made w #[] 0 (Nat.le_refl _) (Nat.zero_le _) (by simp)) ad 0 c [] rfl rfl (fun j u hu => by simp at hu) (fun u hu => by cases hu) (by decide) (by decide) (by simp) ?_; intro v9 w9 ho9 hg9 _ hb9; rw [Nat.zero_add, List.nil_append] at ho9; have ho : OwnS w9 w.heap.size v9 [] := ho9; obtain ⟨A9, c9, e9, hs9⟩ := ho.slice; subst e9; have HB : Hid (Below w.heap.size w w9) := Lib.hid (((al w (.cells #[] 58))).grown hg9 (by simp) (fun k hk => by injection hk with hk; subst hk; exact Nat.le_refl _)); clear ho9 hg9 hb9 ho hs9)
    go_wp2
    go_ret
    first | exact ⟨A9, c9, rfl, HB.out⟩ | exact ⟨⟨A9, c9, rfl⟩, HB.out⟩
theorem ins0_any (A : Option Addr) (c : Nat) (w : World) :
    Calls Try.prog 90 #[.slice A 0 c, .int .i64 0, .int .i64 0, .func (.func 57) #[] #[]] w fun e w' => e = .returned (.tuple #[]) ∧ Below w.heap.size w w' := by
  go_enter Try.func90, Try.ntmps90
  go_wp2_with fail
  go_loopw [8] (fun vi wr => vi = .int .i64 1 ∧ Hid (Below w.heap.size w wr)) (fun _ _ => 0)
  case atStart => exact ⟨rfl, Lib.hid (Below.refl _ _)⟩
  case round =>
    obtain ⟨rfl, HB⟩ := hrel
    go_wp2
    go_end0
    exact ⟨rfl, HB.out⟩
theorem sort0_any (A : Option Addr) (c : Nat) (w : World) :
    Calls Try.prog 56 #[.slice A 0 c, .func (.func 57) #[] #[]] w fun e w' => e = .returned (.tuple #[]) ∧ Below w.heap.size w w' := by
  have HI := Lib.hid fun (W : World) => ins0_any A c W
  have HS : Hid (Calls Try.prog 79 #[.slice A 0 c, .int .i64 0, .func (.func 57) #[] #[]] w fun e w' => e = .returned (.tuple #[]) ∧ Below w.heap.size w w') := by
    refine Lib.hid ?_
    go_enter Try.func79, Try.ntmps79
    go_wp2
    go_loopw [7, 8] (fun va vb wr => va = .int .i64 0 ∧ vb = .int .i64 20 ∧ Hid (Below w.heap.size w wr)) (fun _ _ _ => 0)
    case atStart => exact ⟨rfl, rfl, Lib.hid (Below.refl _ _)⟩
    case round =>
      obtain ⟨rfl, rfl, HB⟩ := hrel
      go_wp2_with fail
      refine (HI.out _).mono ?_
      rintro e w1 ⟨rfl, hb1⟩
      have HB1 := Lib.hid (blw HB.out hb1)
      clear hb1
      go_wp2
      go_loopw [6] (fun vb wr => vb = .int .i64 20 ∧ Hid (Below w.heap.size w wr)) (fun _ _ => 0)
      case atStart => exact ⟨rfl, HB1⟩
      case round =>
        obtain ⟨rfl, HB2⟩ := hrel
        go_wp2
        go_end0
        exact ⟨rfl, HB2.out⟩
  go_enter Try.func56, Try.ntmps56
  go_wp2_with fail
  refine HS.out.mono ?_
  rintro e w1 ⟨rfl, hb1⟩
  go_wp2
  go_end0
  exact ⟨rfl, hb1⟩
theorem tidy0_any (A : Option Addr) (c : Nat) (w : World) :
    Calls Try.prog 40 #[.slice A 0 c] w (RetP w.heap.size [] w) := by
  have HC := Lib.hid (clone0_any A c w)
  have HS := Lib.hid fun (A : Option Addr) (c : Nat) (W : World) => sort0_any A c W
  go_enter Try.func40, Try.ntmps40
  go_wp2_with fail
  refine HC.out.mono ?_
  rintro e w1 ⟨A1, c1, rfl, hb1⟩
  have HB1 := Lib.hid hb1
  clear hb1
  go_wp2_with fail
  refine (HS.out _ _ _).mono ?_
  rintro e w2 ⟨rfl, hb2⟩
  have HB2 := Lib.hid (blw HB1.out hb2)
  clear hb2
  go_wp2
  go_loopw [4, 13] (fun vo vi wr => vo = .slice none 0 0 ∧ vi = .int .i64 0 ∧ Hid (Below w.heap.size w wr)) (fun _ _ _ => 0)
  case atStart => exact ⟨rfl, rfl, HB2⟩
  case round =>
    obtain ⟨rfl, rfl, HB3⟩ := hrel
    go_wp2
    go_ret
    exact ⟨none, 0, rfl, OwnS.nil _ _, HB3.out⟩
/-- of any steps -/
theorem tidyA_any (l : List StepD) (A : Option Addr) (n c : Nat) (hn : l.length = n) (hb : n ≤ 1000) (w : World) (h : Stp w A c l) :
    Calls Try.prog 40 #[.slice A n c] w fun e w' => ∃ R, R.length ≤ n ∧ TidyR l R ∧ RetP w.heap.size R w e w' := by
  by_cases h0 : 0 < n
  · obtain ⟨b, off, s, eA, _, _, _⟩ := h.lt (k := 0) (by omega)
    subst eA
    exact tidyF_any l b off n c hn h0 hb w h
  · obtain rfl : n = 0 := by omega
    have hl : l = [] := List.eq_nil_of_length_eq_zero hn
    subst hl
    exact (tidy0_any A c w).mono fun e w' hr => ⟨[], Nat.le_refl _, fun lo d _ _ => TidyOf.nil lo d, hr⟩
end Go.Proofs.Ytapojmniokdjfaa.Stp

