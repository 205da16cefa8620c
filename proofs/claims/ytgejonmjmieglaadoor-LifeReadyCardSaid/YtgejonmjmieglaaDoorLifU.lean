/- Layer 13: what the laws share: long, the chapter's workflow, arguments. -/
import Derived.Test.YtgejonmjmieglaaDoorLifK
import Derived.Test.YtgejonmjmieglaaDoorLifR
import Derived.Test.YtgejonmjmieglaaDoorLifH
namespace Go.Proofs.YtgejonmjmieglaaDoor.Lf
open Go.RowKit
open Dag (Ints IRows Own1 OwnI Sl ints num info_int info_is arc Plus)
set_option linter.unusedVariables false
set_option maxRecDepth 100000

/-- what is looked at -/
structure Few (f : FlowD) (S F : List Int) : Prop where
  size : sizeD f ≤ 300
  len : f.tasks.length ≤ 20
  s : S.length ≤ 30
  f : F.length ≤ 30
set_option maxHeartbeats 1600000 in
theorem long13_any (f : FlowD) (A : Option Addr) (c : Nat) (w : World) (h : Tasks w A c f.tasks) (hs : Small f) (S F : List Int) (SA FA : Option Addr) (n sc m fc : Nat) (hL : Lif w SA n sc FA m fc S F) :
    Calls Tryd.prog 10 #[.agg #[.string (sb f.name), .int .i64 f.deadline, .int .i64 f.priority, .slice A f.tasks.length c], .agg #[.slice SA n sc, .slice FA m fc]] w fun e w' => ∃ r, e = .returned (.bool r) ∧ (r = false → Few f S F) ∧ Below w.heap.size w w' := by
  have hlm := h.lenI
  have CS := Lib.hid (show ∀ W, Below w.heap.size w W → Calls Tryd.prog 32 #[.agg #[.string (sb f.name), .int .i64 f.deadline, .int .i64 f.priority, .slice A f.tasks.length c]] W fun e w' => (∃ x : Int, e = .returned (.int .i64 x) ∧ (f.tasks.length ≤ 30 → x = (sizeD f : Nat))) ∧ Below W.heap.size W w' from fun W hW => by
    by_cases hk : f.tasks.length ≤ 30
    · exact (size_few f A c W (h.below hW) hk hs).mono fun e w' ⟨he, hb⟩ => ⟨⟨_, he, fun _ => rfl⟩, hb⟩
    · exact (size_some f A c W (h.below hW)).mono fun e w' ⟨⟨x, he⟩, hb⟩ => ⟨⟨x, he, fun q => absurd q hk⟩, hb⟩)
  have hnl : n ≤ 9223372036854775807 := by rw [← hL.n]; exact ints_top hL.s
  have hml : m ≤ 9223372036854775807 := by rw [← hL.m]; exact ints_top hL.f
  have HN := Lib.hid hL.n; have HM := Lib.hid hL.m
  clear h hs hL
  go_enter Tryd.func10, Tryd.ntmps10
  go_wp2_with fail
  refine (CS.out _ (ba2 (b := 0) (Below.refl _ _))).mono ?_
  rintro e w1 ⟨⟨x, rfl, hx⟩, hb1⟩
  have HB1 := Lib.hid (show Below w.heap.size w w1 from blw (ba2 (b := 0) (Below.refl _ _)) hb1)
  obtain ⟨p0, p1, p2, p3, p4, p5⟩ := keep6 hb1 (two_boxesG _ _ _ _ _ _ w)
  have HX := Lib.hid hx
  clear hb1 hx
  by_cases h1 : 300 < x
  · go_wp2
    go_ret
    exact ⟨true, rfl, (fun q => by cases q), HB1.out⟩
  by_cases h2 : 20 < f.tasks.length
  · have h2' : (20 : Int) < (f.tasks.length : Int) := by omega
    go_wp2
    go_ret
    exact ⟨true, rfl, (fun q => by cases q), HB1.out⟩
  have h2' : ¬ (20 : Int) < (f.tasks.length : Int) := by omega
  by_cases h3 : 30 < n
  · have h3' : (30 : Int) < (n : Int) := by omega
    go_wp2
    go_ret
    exact ⟨true, rfl, (fun q => by cases q), HB1.out⟩
  have h3' : ¬ (30 : Int) < (n : Int) := by omega
  by_cases h4 : 30 < m
  · have h4' : (30 : Int) < (m : Int) := by omega
    go_wp2
    go_ret
    exact ⟨true, rfl, (fun q => by cases q), HB1.out⟩
  · have h4' : ¬ (30 : Int) < (m : Int) := by omega
    have HFW := Lib.hid (show Few f S F from ⟨by have := HX.out (by omega); omega, by omega, by rw [HN.out]; omega, by rw [HM.out]; omega⟩)
    go_wp2
    go_ret
    exact ⟨false, by first | rfl | exact ret_or (by simp; omega), (fun _ => HFW.out), HB1.out⟩

/-! the chapter's two tasks -/
def twoF : FlowD := ⟨[119], 0, 0, [⟨[97], 1, 1, 0, false, []⟩, ⟨[98], 1, 1, 0, false, [0]⟩]⟩
def RetTwo (w : World) (e : Ending) (w' : World) : Prop := ∃ A c, e = .returned (.agg #[.string (sb twoF.name), .int .i64 twoF.deadline, .int .i64 twoF.priority, .slice A twoF.tasks.length c]) ∧ Tasks w' A c twoF.tasks ∧ Below w.heap.size w w'
theorem two_any (w : World) : Calls Tryd.prog 33 #[] w (RetTwo w) := by
  go_enter Tryd.func33, Tryd.ntmps33
  go_wp2
  have q0 := heap_alloc_new w (.cells #[.string ⟨#[119]⟩, .int .i64 0, .int .i64 0, .slice (some ⟨w.heap.size + 1 + 1, 0, none⟩) 2 2] 24)
  have q1 := heap_alloc_new (w.alloc (.cells #[.string ⟨#[119]⟩, .int .i64 0, .int .i64 0, .slice (some ⟨w.heap.size + 1 + 1, 0, none⟩) 2 2] 24)) (.cells #[.int .i64 0] 3)
  have q2 := heap_alloc_new ((w.alloc (.cells #[.string ⟨#[119]⟩, .int .i64 0, .int .i64 0, .slice (some ⟨w.heap.size + 1 + 1, 0, none⟩) 2 2] 24)).alloc (.cells #[.int .i64 0] 3)) (.cells #[.string ⟨#[97]⟩, .int .i64 1, .int .i64 1, .int .i64 0, .bool false, .slice none 0 0, .string ⟨#[98]⟩, .int .i64 1, .int .i64 1, .int .i64 0, .bool false, .slice (some ⟨w.heap.size + 1, 0, none⟩) 1 1] 64)
  have k0 := keep_obj (al _ (.cells #[.string ⟨#[97]⟩, .int .i64 1, .int .i64 1, .int .i64 0, .bool false, .slice none 0 0, .string ⟨#[98]⟩, .int .i64 1, .int .i64 1, .int .i64 0, .bool false, .slice (some ⟨w.heap.size + 1, 0, none⟩) 1 1] 64)) (keep_obj (al _ (.cells #[.int .i64 0] 3)) q0)
  have k1 := keep_obj (al _ (.cells #[.string ⟨#[97]⟩, .int .i64 1, .int .i64 1, .int .i64 0, .bool false, .slice none 0 0, .string ⟨#[98]⟩, .int .i64 1, .int .i64 1, .int .i64 0, .bool false, .slice (some ⟨w.heap.size + 1, 0, none⟩) 1 1] 64)) q1
  have hbl := ba3 (b := 0) (w := w) (o := (.cells #[.string ⟨#[119]⟩, .int .i64 0, .int .i64 0, .slice (some ⟨w.heap.size + 1 + 1, 0, none⟩) 2 2] 24)) (p := (.cells #[.int .i64 0] 3)) (q := (.cells #[.string ⟨#[97]⟩, .int .i64 1, .int .i64 1, .int .i64 0, .bool false, .slice none 0 0, .string ⟨#[98]⟩, .int .i64 1, .int .i64 1, .int .i64 0, .bool false, .slice (some ⟨w.heap.size + 1, 0, none⟩) 1 1] 64)) (Below.refl _ _)
  simp only [World.size_alloc] at k1 q2
  generalize ((w.alloc (.cells #[.string ⟨#[119]⟩, .int .i64 0, .int .i64 0, .slice (some ⟨w.heap.size + 1 + 1, 0, none⟩) 2 2] 24)).alloc (.cells #[.int .i64 0] 3)).alloc (.cells #[.string ⟨#[97]⟩, .int .i64 1, .int .i64 1, .int .i64 0, .bool false, .slice none 0 0, .string ⟨#[98]⟩, .int .i64 1, .int .i64 1, .int .i64 0, .bool false, .slice (some ⟨w.heap.size + 1, 0, none⟩) 1 1] 64) = W at k0 k1 q2 hbl ⊢
  refine bodyPost_ret (results_cell_row rfl _ _ _ _ _ _ _ rfl k0 Tryd.underlying24 rfl (by kernel_rfl)) rfl ?_
  refine ⟨some ⟨w.heap.size + 1 + 1, 0, none⟩, 2, rfl, ⟨fun k t ht => ?_, by decide, by decide, (fun e => by cases e), by decide⟩, hbl⟩
  have c := fun i => Dag.blk_cell q2 i
  match k, ht with
  | 0, ht => injection ht with ht; subst ht; exact ⟨_, 0, none, 0, rfl, c 0, c 1, c 2, c 3, c 4, c 5, Sl.empty _⟩
  | 1, ht =>
    injection ht with ht; subst ht
    exact ⟨_, 0, some ⟨w.heap.size + 1, 0, none⟩, 1, rfl, c 6, c 7, c 8, c 9, c 10, c 11, rowO_ints (S := [0]) k1 rfl (by decide)⟩
  | k + 2, ht => simp [twoF] at ht

theorem two_chk : checkE twoF = 0 := by kernel_rfl
theorem two_nofail {S : List Int} (h : ∀ u, u < 2 → atI S u ≠ 3) (v : Nat) : ¬ DeadP twoF.tasks S v := fun ⟨u, h1, h2, _⟩ => h u h1 h2
theorem two_ok1 : LifeOK twoF.tasks [0, 0] [0, 0] := by
  refine (life_iff' (flw_ok two_chk) rfl rfl).2 ⟨fun v t ht => ?_, fun v hv => ⟨fun e => ?_, fun e => absurd e (two_nofail (fun u hu => ?_) v)⟩, Or.inl (by kernel_rfl)⟩
  · match v, ht with
    | 0, ht => injection ht with ht; subst ht; first | rfl | decide
    | 1, ht => injection ht with ht; subst ht; first | rfl | decide
    | v + 2, ht => simp [twoF] at ht
  · match v, hv with
    | 0, _ => exact absurd e (by decide)
    | 1, _ => exact absurd e (by decide)
    | v + 2, hv => exact absurd (show v + 2 < 2 from hv) (by omega)
  · match u, hu with
    | 0, _ => exact (by decide)
    | 1, _ => exact (by decide)
theorem two_ok2 : LifeOK twoF.tasks [1, 0] [0, 0] := by
  refine (life_iff' (flw_ok two_chk) rfl rfl).2 ⟨fun v t ht => ?_, fun v hv => ⟨fun e => ?_, fun e => absurd e (two_nofail (fun u hu => ?_) v)⟩, Or.inl (by kernel_rfl)⟩
  · match v, ht with
    | 0, ht => injection ht with ht; subst ht; first | rfl | decide
    | 1, ht => injection ht with ht; subst ht; first | rfl | decide
    | v + 2, ht => simp [twoF] at ht
  · match v, hv with
    | 0, _ => exact absurd e (by decide)
    | 1, _ => exact absurd e (by decide)
    | v + 2, hv => exact absurd (show v + 2 < 2 from hv) (by omega)
  · match u, hu with
    | 0, _ => exact (by decide)
    | 1, _ => exact (by decide)
theorem two_arc {v u : Nat} (h : arc (linkE twoF.tasks) v u = true) : v = 1 ∧ u = 0 := by
  obtain ⟨t, ht, _, hu⟩ := arc_link h
  match v, ht with
  | 0, ht => injection ht with ht; subst ht; simp at hu
  | 1, ht => injection ht with ht; subst ht; simp at hu; exact ⟨rfl, by omega⟩
  | v + 2, ht => simp [twoF] at ht
theorem two_plus : Plus (arc (linkE twoF.tasks)) 1 0 := .one (by decide)
theorem two_dl : DlP twoF [1, 0] 0 [1] := by
  refine ⟨fun v => v == 1, by decide, fun v hv => ?_⟩
  match v, hv with
  | 0, _ =>
    refine ⟨(fun e => by cases e), fun ⟨⟨u, _, hu, hp⟩, _⟩ => ?_⟩
    exfalso
    have h2 : ∀ x, Plus (arc (linkE twoF.tasks)) 0 x → False := fun x hx => hx.ind (M := fun _ => False) (fun y hy => by have := (two_arc hy).1; omega) fun _ _ _ hm _ => hm
    exact h2 _ hp
  | 1, _ => exact ⟨fun _ => ⟨⟨0, by decide, by simp, two_plus⟩, by decide⟩, fun _ => rfl⟩
  | v + 2, hv => exact absurd (show v + 2 < 2 from hv) (by omega)
end Go.Proofs.YtgejonmjmieglaaDoor.Lf

