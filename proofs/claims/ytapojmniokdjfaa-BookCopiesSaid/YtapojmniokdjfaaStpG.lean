/- Layer 9: may so many be free, at all times? Two added up. -/
import Derived.Test.YtapojmniokdjfaaStpC
namespace Go.Proofs.Ytapojmniokdjfaa.Stp
open Go.RowKit Go.Shelf
set_option linter.unusedVariables false
set_option maxRecDepth 100000

def okS (l : List StepD) : Bool := l.all fun s => nodeOK s.fr
theorem counts1_any (s : StepD) (w : World) : Calls Try.prog 78 #[.agg #[.int .i64 s.at_, .int .i64 s.fr]] w fun e w' => e = .returned (.bool (!nodeOK s.fr)) ∧ Below w.heap.size w w' := by
  have hco := fun (W : World) => count_any s.fr W
  go_enter Try.func78, Try.ntmps78
  go_wp2_with fail
  refine (hco _).mono ?_
  rintro e w1 ⟨rfl, rfl⟩
  go_wp2
  go_ret
  exact ⟨rfl, al _ _⟩
set_option maxHeartbeats 800000 in
theorem index_any (l : List StepD) (A : Option Addr) (n c : Nat) (hn : l.length = n) (w : World) (h : Stp w A c l) :
    Calls Try.prog 89 #[.slice A n c, .func (.func 78) #[] #[]] w fun e w' => ∃ v : Int, e = .returned (.int .i64 v) ∧ (decide (0 ≤ v) = !okS l) ∧ Below w.heap.size w w' := by
  have H := Lib.hid h; have HN := Lib.hid hn
  have hnl : n ≤ 9223372036854775807 := by rw [← hn]; exact h.lenI
  clear h hn
  go_enter Try.func89, Try.ntmps89
  go_wp2
  go_loopw [8] (fun i wr => ∃ k : Nat, k ≤ n ∧ i = .int .i64 k ∧ Hid (okS (l.take k) = true) ∧ Hid (Below w.heap.size w wr)) (fun i _ => n - (intOf i).toNat)
  case atStart => exact ⟨0, Nat.zero_le _, rfl, Lib.hid rfl, Lib.hid (Below.refl _ _)⟩
  case round =>
    obtain ⟨k, hk, rfl, HO, HX⟩ := hrel
    by_cases hlt : k < n
    · obtain ⟨b, off, s, eA, hs, c0, c1⟩ := (H.out.below HX.out).lt (k := k) (by rw [HN.out]; exact hlt)
      subst eA
      have hc := counts1_any s wr
      have htk : l.take (k + 1) = l.take k ++ [s] := by rw [List.take_add_one, hs, Option.toList_some]
      have hmem : s ∈ l := List.mem_of_getElem? hs
      cases hf : nodeOK s.fr
      · rw [hf] at hc
        have HR : Hid (okS l = false) := Lib.hid (by
          unfold okS
          rw [List.all_eq_false]
          exact ⟨s, hmem, by rw [hf]; decide⟩)
        clear htk hmem hf hs
        go_wp2_with fail
        refine hc.mono ?_
        rintro e w1 ⟨rfl, hb1⟩
        have HB := Lib.hid (blw HX.out hb1)
        clear hb1 hc
        go_wp2
        try simp only [Exit.noGoto]
        go_ret
        exact ⟨k, rfl, by rw [HR.out]; simp, HB.out⟩
      · rw [hf] at hc
        have HO2 : Hid (okS (l.take (k + 1)) = true) := Lib.hid (by rw [htk]; unfold okS; rw [List.all_append]; have := HO.out; unfold okS at this; rw [this]; simp [hf])
        clear htk hmem hf hs
        go_wp2_with fail
        refine hc.mono ?_
        rintro e w1 ⟨rfl, hb1⟩
        have HB := Lib.hid (blw HX.out hb1)
        clear hb1 hc
        go_wp2
        go_roundw
        case rel => exact ⟨k + 1, by omega, by go_num, HO2, HB⟩
        case measure => simp [intOf]; omega
    · obtain rfl : k = n := by omega
      have hr : okS l = true := by have := HO.out; rwa [List.take_of_length_le (by rw [HN.out]; exact Nat.le_refl _)] at this
      have HR := Lib.hid hr
      clear hr
      go_wp2
      try simp only [Exit.noGoto]
      go_ret
      exact ⟨-1, rfl, by rw [HR.out]; rfl, HX.out⟩
theorem contains_any (l : List StepD) (A : Option Addr) (n c : Nat) (hn : l.length = n) (w : World) (h : Stp w A c l) :
    Calls Try.prog 77 #[.slice A n c, .func (.func 78) #[] #[]] w fun e w' => e = .returned (.bool (!okS l)) ∧ Below w.heap.size w w' := by
  have HI := Lib.hid (index_any l A n c hn w h)
  clear h
  go_enter Try.func77, Try.ntmps77
  go_wp2_with fail
  refine HI.out.mono ?_
  rintro e w1 ⟨v, rfl, hv, hb1⟩
  have HV := Lib.hid hv
  clear hv
  go_wp2
  go_ret
  exact ⟨by rw [← HV.out]; rfl, hb1⟩
theorem counts_any (l : List StepD) (A : Option Addr) (n c : Nat) (hn : l.length = n) (w : World) (h : Stp w A c l) :
    Calls Try.prog 54 #[.slice A n c] w fun e w' => e = .returned (.bool (okS l)) ∧ Below w.heap.size w w' := by
  have HI := Lib.hid (contains_any l A n c hn w h)
  clear h
  go_enter Try.func54, Try.ntmps54
  go_wp2_with fail
  refine HI.out.mono ?_
  rintro e w1 ⟨rfl, hb1⟩
  go_wp2
  go_ret
  exact ⟨by simp, hb1⟩

theorem mk_steps (n : Nat) (hn : n ≤ 100000) : ∃ cur : Array Value, cur.size = n * 2 ∧ ∀ W : World, (Instr.makeSlice 38 (.int .i64 0) (.int .i64 (n : Int))).run Try.prog W = .ok (.slice (some ⟨W.heap.size, 0, none⟩) 0 n) (W.alloc (.cells cur 58)) := by
  obtain ⟨i0, hi0, hz0, hz1, hz2⟩ := info_parts info_step
  refine ⟨madeCells (Value.agg #[.int .i64 0, .int .i64 0]).cells (n * 2), by simp [madeCells], fun W => ?_⟩
  have h := run_makeSlice (P := Try.prog) W 38 58 i0 (.agg #[.int .i64 0, .int .i64 0]) Try.underlying38 hi0 hz0 .i64 .i64 0 (n : Int) (by omega) (by omega) (by rw [hz1]; omega) (by rw [hz2]; omega) (by omega)
  rw [h, Int.toNat_natCast, hz1]
  rfl
theorem OwnS.start {w : World} {n : Nat} {cur : Array Value} (hc : cur.size = n * 2) (hn : n ≤ 100000) : OwnS (w.alloc (.cells cur 58)) w.heap.size (.slice (some ⟨w.heap.size, 0, none⟩) 0 n) [] :=
  ⟨rfl, Or.inr ⟨w.heap.size, n, cur, rfl, Nat.le_refl _, heap_alloc_new w _, Nat.zero_le _, by simp only [maxLen]; omega, hc, by simp [flat]⟩⟩
def lenV : Value → Nat
  | .slice _ n _ => n
  | _ => 0
/-- what the loop wants of two lists and two numbers -/
structure TogB (L M : List StepD) (x y : Int) : Prop where
  l : ∀ s ∈ L, s.at_ ≤ 1099511627775 ∧ -20000 ≤ s.fr ∧ s.fr ≤ 20000
  m : ∀ s ∈ M, s.at_ ≤ 1099511627775 ∧ -20000 ≤ s.fr ∧ s.fr ≤ 20000
  x : -20000 ≤ x ∧ x ≤ 20000
  y : -20000 ≤ y ∧ y ≤ 20000
/-- it lies ahead of what the call makes -/
abbrev Lies (B : Nat) (w : World) (A : Option Addr) (c : Nat) (l : List StepD) : Prop := ∀ W, Below B w W → Stp W A c l
theorem Lies.cons {B : Nat} {w : World} {A : Option Addr} {c : Nat} {s : StepD} {l : List StepD} (h : Lies B w A c (s :: l)) : Lies B w (cutS A c 1) (c - 1) l := fun W hW => by
  have := (h W hW).cut 1 l.length (by simp; omega)
  rwa [List.drop_succ_cons, List.drop_zero, List.take_length] at this
theorem cut_1 (A : Option Addr) (p c : Nat) (W : World) : (Instr.slice 38 (.slice A (p + 1) c) (some (.int .i64 1)) none none).run Try.prog W = .ok (.slice (cutS A c 1) p (c - 1)) W := by
  have := run_cut_l A (p + 1) c 1 .i64 1 rfl (by omega) W
  simpa using this

set_option maxHeartbeats 8000000 in
theorem together_any (l m : List StepD) (A B : Option Addr) (n k c d : Nat) (hn : l.length = n) (hk : m.length = k) (hb : n + k ≤ 100000) (w : World) (h : Stp w A c l) (h' : Stp w B d m) (hF : TogB l m 0 0) :
    Calls Try.prog 53 #[.slice A n c, .slice B k d] w (RetP w.heap.size (togD (n + k) 0 0 l m []) w) := by
  obtain ⟨R, hR⟩ : ∃ R, togD (n + k) 0 0 l m [] = R := ⟨_, rfl⟩
  rw [hR]
  have HLA : Hid (Lies w.heap.size w A c l) := Lib.hid fun W hW => h.below hW
  have HMA : Hid (Lies w.heap.size w B d m) := Lib.hid fun W hW => h'.below hW
  have HN := Lib.hid hn; have HK := Lib.hid hk; have HR0 := Lib.hid hR; have HF0 := Lib.hid hF
  have hnl : n ≤ 9223372036854775807 := by omega
  have hkl : k ≤ 9223372036854775807 := by omega
  obtain ⟨cur0, hcz, hmk⟩ := mk_steps (n + k) hb
  simp only [Int.natCast_add] at hmk
  have HST := Lib.hid (OwnS.start (w := w) hcz hb)
  clear h h' hn hk hR hF
  go_enter Try.func53, Try.ntmps53
  go_wp2_with fail
  refine wp_scope_straight ?_
  go_wp2_with fail
  refine wp_label ?_
  go_wp2
  have HB0 : Hid (Below w.heap.size w (w.alloc (.cells cur0 58))) := Lib.hid (al _ _)
  generalize w.alloc (.cells cur0 58) = W0 at HST HB0 ⊢
  clear hmk hcz
  go_loopw [0, 1, 5, 6, 7] (fun v0 v1 v5 v6 v7 wr => ∃ (L M out : List StepD) (x y : Int) (A1 : Option Addr) (n1 c1 : Nat) (B1 : Option Addr) (n2 d1 : Nat) (O : Option Addr) (co : Nat), out.length + n1 + n2 ≤ 100000 ∧ v0 = .slice A1 n1 c1 ∧ v1 = .slice B1 n2 d1 ∧ v5 = .slice O out.length co ∧ v6 = .int .i64 x ∧ v7 = .int .i64 y ∧
    Hid (L.length = n1) ∧ Hid (M.length = n2) ∧ Hid (Lies w.heap.size w A1 c1 L) ∧ Hid (Lies w.heap.size w B1 d1 M) ∧ Hid (OwnS wr w.heap.size (.slice O out.length co) out) ∧ Hid (Below w.heap.size w wr) ∧ Hid (∃ g, L.length + M.length ≤ g ∧ togD g x y L M out = R) ∧ Hid (TogB L M x y)) (fun v0 v1 _ _ _ _ => lenV v0 + lenV v1)
  case atStart => exact ⟨l, m, [], 0, 0, A, n, c, B, k, d, _, _, by simpa using hb, rfl, rfl, rfl, rfl, rfl, HN, HK, HLA, HMA, HST, HB0, Lib.hid ⟨n + k, by rw [HN.out, HK.out]; exact Nat.le_refl _, HR0.out⟩, HF0⟩
  case round =>
    clear HLA HMA HST HB0 HN HK HR0 HF0
    obtain ⟨L, M, out, x, y, A1, n1, c1, B1, n2, d1, O, co, hN, rfl, rfl, rfl, rfl, rfl, HN1, HN2, HL, HM, HO, HB, HR, HF⟩ := hrel
    have hn1 : n1 ≤ 9223372036854775807 := by omega
    have hn2 : n2 ≤ 9223372036854775807 := by omega
    cases L with
    | nil =>
      cases M with
      | nil =>
        have hs1 := fun W (hW : Below w.heap.size w W) => start_any [] A1 n1 c1 HN1.out W (HL.out W hW)
        have hs2 := fun W (hW : Below w.heap.size w W) => start_any [] B1 n2 d1 HN2.out W (HM.out W hW)
        rw [show startV [] = 1099511627776 from rfl] at hs1 hs2
        have hro : out = R := by obtain ⟨g, _, hr⟩ := HR.out; rw [← hr]; cases g <;> rfl
        have HRO := Lib.hid hro
        clear HR HF hro
        go_wp2_with fail
        refine (hs1 _ HB.out).mono ?_
        rintro e w1 ⟨rfl, rfl⟩
        go_wp2_with fail
        refine (hs2 _ HB.out).mono ?_
        rintro e w1 ⟨rfl, rfl⟩
        clear hs1 hs2
        go_wp2
        try simp only [Exit.noGoto]
        go_ret
        exact ⟨O, co, by rw [← HRO.out]; rfl, by rw [← HRO.out]; exact HO.out, HB.out⟩
      | cons b M =>
        obtain ⟨bb, bo, eb, b0, b1⟩ := (HM.out wr HB.out).cells 0 b rfl
        subst eb
        rw [Nat.zero_mul, Nat.add_zero] at b0 b1
        obtain ⟨bp, rfl⟩ : ∃ p, n2 = p + 1 := ⟨n2 - 1, by have := HN2.out; simp at this; omega⟩
        have hq1 := HF.out.l
        have hq2 := HF.out.m
        have hqx := HF.out.x
        have hqy := HF.out.y
        have hqb := hq2 b (by simp)
        have hs1 := fun W (hW : Below w.heap.size w W) => start_any ([] : List StepD) A1 n1 c1 HN1.out W (HL.out W hW)
        have hs2 := fun W (hW : Below w.heap.size w W) => start_any (b :: M) (some ⟨bb, bo, none⟩) (bp + 1) d1 HN2.out W (HM.out W hW)
        rw [show startV ([] : List StepD) = 1099511627776 from rfl] at hs1
        rw [show startV (b :: M) = b.at_ from rfl] at hs2
        have hf1 : ¬ (1099511627776 : Int) < b.at_ := by omega
        have hf2 : b.at_ < 1099511627776 := by omega
        have hcut2 := fun W => cut_1 (some ⟨bb, bo, none⟩) bp d1 W
        have HG : Hid (∃ g, ([] : List StepD).length + (M).length ≤ g ∧ togD g x b.fr ([] : List StepD) (M) (putD out ⟨b.at_, x + b.fr⟩) = R) := Lib.hid (by
          obtain ⟨g, hg, hr⟩ := HR.out
          obtain ⟨g, rfl⟩ : ∃ q, g = q + 1 := ⟨g - 1, by simp at hg; omega⟩
          refine ⟨g, by simp at hg ⊢; omega, ?_⟩
          rw [← hr]
          rfl)
        have hws : IntKind.i64.wrap (x + b.fr) = x + b.fr := IntWalk.i64_in _ (by omega)
        have HF2 : Hid (TogB ([] : List StepD) (M) x b.fr) := Lib.hid ⟨fun s hs => hq1 s (by first | exact hs | simp [hs]), fun s hs => hq2 s (by first | exact hs | simp [hs]), by first | exact hqx | exact hqa.2, by first | exact hqy | exact hqb.2⟩
        have HM2 := Lib.hid (HM.out.cons)
        clear hq1 hq2 hqx hqy  hqb HF HR
        go_wp2_with fail
        refine (hs1 _ HB.out).mono ?_
        rintro e w1 ⟨rfl, rfl⟩
        go_wp2_with fail
        refine (hs2 _ HB.out).mono ?_
        rintro e w1 ⟨rfl, rfl⟩
        clear hs1 hs2
        go_wp2_with fail
        go_quiet (fail)
        have HBW : Hid (Below w.heap.size w (wr.drewN nq)) := Lib.hid (HB.out.trans ((drN wr nq).mono HB.out.size))
        have HOW : Hid (OwnS (wr.drewN nq) w.heap.size (.slice O out.length co) out) := Lib.hid (HO.out.below (drN wr nq))
        generalize wr.drewN nq = W2 at HBW HOW ⊢
        go_wp2_with fail
        refine (put_any out ⟨b.at_, x + b.fr⟩ w.heap.size O out.length co W2 HOW.out HBW.out.size (by omega)).mono ?_
        rintro e w3 ⟨O3, co3, rfl, ho3, hb3⟩
        have HO3 := Lib.hid ho3; have HB3 := Lib.hid (HBW.out.trans hb3)
        have hln := put_len out ⟨b.at_, x + b.fr⟩
        clear ho3 hb3
        go_wp2
        go_roundw
        case rel => exact ⟨([] : List StepD), (M), _, _, _, _, _, _, _, _, _, _, _, by omega, rfl, rfl, rfl, rfl, rfl, HN1, Lib.hid (by have := HN2.out; simpa using this), HL, HM2, HO3, HB3, HG, HF2⟩
        case measure => simp [lenV]
    | cons a L =>
      cases M with
      | nil =>
        obtain ⟨ab, ao, ea, a0, a1⟩ := (HL.out wr HB.out).cells 0 a rfl
        subst ea
        rw [Nat.zero_mul, Nat.add_zero] at a0 a1
        obtain ⟨ap, rfl⟩ : ∃ p, n1 = p + 1 := ⟨n1 - 1, by have := HN1.out; simp at this; omega⟩
        have hq1 := HF.out.l
        have hq2 := HF.out.m
        have hqx := HF.out.x
        have hqy := HF.out.y
        have hqa := hq1 a (by simp)
        have hs1 := fun W (hW : Below w.heap.size w W) => start_any (a :: L) (some ⟨ab, ao, none⟩) (ap + 1) c1 HN1.out W (HL.out W hW)
        have hs2 := fun W (hW : Below w.heap.size w W) => start_any ([] : List StepD) B1 n2 d1 HN2.out W (HM.out W hW)
        rw [show startV (a :: L) = a.at_ from rfl] at hs1
        rw [show startV ([] : List StepD) = 1099511627776 from rfl] at hs2
        have hf1 : a.at_ < 1099511627776 := by omega
        have hcut1 := fun W => cut_1 (some ⟨ab, ao, none⟩) ap c1 W
        have HG : Hid (∃ g, (L).length + ([] : List StepD).length ≤ g ∧ togD g a.fr y (L) ([] : List StepD) (putD out ⟨a.at_, a.fr + y⟩) = R) := Lib.hid (by
          obtain ⟨g, hg, hr⟩ := HR.out
          obtain ⟨g, rfl⟩ : ∃ q, g = q + 1 := ⟨g - 1, by simp at hg; omega⟩
          refine ⟨g, by simp at hg ⊢; omega, ?_⟩
          rw [← hr]
          rfl)
        have hws : IntKind.i64.wrap (a.fr + y) = a.fr + y := IntWalk.i64_in _ (by omega)
        have HF2 : Hid (TogB (L) ([] : List StepD) a.fr y) := Lib.hid ⟨fun s hs => hq1 s (by first | exact hs | simp [hs]), fun s hs => hq2 s (by first | exact hs | simp [hs]), by first | exact hqx | exact hqa.2, by first | exact hqy | exact hqb.2⟩
        have HL2 := Lib.hid (HL.out.cons)
        clear hq1 hq2 hqx hqy hqa  HF HR
        go_wp2_with fail
        refine (hs1 _ HB.out).mono ?_
        rintro e w1 ⟨rfl, rfl⟩
        go_wp2_with fail
        refine (hs2 _ HB.out).mono ?_
        rintro e w1 ⟨rfl, rfl⟩
        clear hs1 hs2
        go_wp2_with fail
        go_quiet (fail)
        have HBW : Hid (Below w.heap.size w (wr.drewN nq)) := Lib.hid (HB.out.trans ((drN wr nq).mono HB.out.size))
        have HOW : Hid (OwnS (wr.drewN nq) w.heap.size (.slice O out.length co) out) := Lib.hid (HO.out.below (drN wr nq))
        generalize wr.drewN nq = W2 at HBW HOW ⊢
        go_wp2_with fail
        refine (put_any out ⟨a.at_, a.fr + y⟩ w.heap.size O out.length co W2 HOW.out HBW.out.size (by omega)).mono ?_
        rintro e w3 ⟨O3, co3, rfl, ho3, hb3⟩
        have HO3 := Lib.hid ho3; have HB3 := Lib.hid (HBW.out.trans hb3)
        have hln := put_len out ⟨a.at_, a.fr + y⟩
        clear ho3 hb3
        go_wp2
        go_roundw
        case rel => exact ⟨(L), ([] : List StepD), _, _, _, _, _, _, _, _, _, _, _, by omega, rfl, rfl, rfl, rfl, rfl, Lib.hid (by have := HN1.out; simpa using this), HN2, HL2, HM, HO3, HB3, HG, HF2⟩
        case measure => simp [lenV]
      | cons b M =>
        by_cases hlt : a.at_ < b.at_
        · obtain ⟨ab, ao, ea, a0, a1⟩ := (HL.out wr HB.out).cells 0 a rfl
          subst ea
          rw [Nat.zero_mul, Nat.add_zero] at a0 a1
          obtain ⟨ap, rfl⟩ : ∃ p, n1 = p + 1 := ⟨n1 - 1, by have := HN1.out; simp at this; omega⟩
          obtain ⟨bb, bo, eb, b0, b1⟩ := (HM.out wr HB.out).cells 0 b rfl
          subst eb
          rw [Nat.zero_mul, Nat.add_zero] at b0 b1
          obtain ⟨bp, rfl⟩ : ∃ p, n2 = p + 1 := ⟨n2 - 1, by have := HN2.out; simp at this; omega⟩
          have hq1 := HF.out.l
          have hq2 := HF.out.m
          have hqx := HF.out.x
          have hqy := HF.out.y
          have hqa := hq1 a (by simp)
          have hqb := hq2 b (by simp)
          have hs1 := fun W (hW : Below w.heap.size w W) => start_any (a :: L) (some ⟨ab, ao, none⟩) (ap + 1) c1 HN1.out W (HL.out W hW)
          have hs2 := fun W (hW : Below w.heap.size w W) => start_any (b :: M) (some ⟨bb, bo, none⟩) (bp + 1) d1 HN2.out W (HM.out W hW)
          rw [show startV (a :: L) = a.at_ from rfl] at hs1
          rw [show startV (b :: M) = b.at_ from rfl] at hs2
          have hcut1 := fun W => cut_1 (some ⟨ab, ao, none⟩) ap c1 W
          have HG : Hid (∃ g, (L).length + (b :: M).length ≤ g ∧ togD g a.fr y (L) (b :: M) (putD out ⟨a.at_, a.fr + y⟩) = R) := Lib.hid (by
            obtain ⟨g, hg, hr⟩ := HR.out
            obtain ⟨g, rfl⟩ : ∃ q, g = q + 1 := ⟨g - 1, by simp at hg; omega⟩
            refine ⟨g, by simp at hg ⊢; omega, ?_⟩
            rw [← hr]
            show _ = (if a.at_ < b.at_ then _ else _); rw [if_pos hlt])
          have hws : IntKind.i64.wrap (a.fr + y) = a.fr + y := IntWalk.i64_in _ (by omega)
          have HF2 : Hid (TogB (L) (b :: M) a.fr y) := Lib.hid ⟨fun s hs => hq1 s (by first | exact hs | simp [hs]), fun s hs => hq2 s (by first | exact hs | simp [hs]), by first | exact hqx | exact hqa.2, by first | exact hqy | exact hqb.2⟩
          have HL2 := Lib.hid (HL.out.cons)
          clear hq1 hq2 hqx hqy hqa hqb HF HR
          go_wp2_with fail
          refine (hs1 _ HB.out).mono ?_
          rintro e w1 ⟨rfl, rfl⟩
          go_wp2_with fail
          refine (hs2 _ HB.out).mono ?_
          rintro e w1 ⟨rfl, rfl⟩
          clear hs1 hs2
          go_wp2_with fail
          go_quiet (fail)
          have HBW : Hid (Below w.heap.size w (wr.drewN nq)) := Lib.hid (HB.out.trans ((drN wr nq).mono HB.out.size))
          have HOW : Hid (OwnS (wr.drewN nq) w.heap.size (.slice O out.length co) out) := Lib.hid (HO.out.below (drN wr nq))
          generalize wr.drewN nq = W2 at HBW HOW ⊢
          go_wp2_with fail
          refine (put_any out ⟨a.at_, a.fr + y⟩ w.heap.size O out.length co W2 HOW.out HBW.out.size (by omega)).mono ?_
          rintro e w3 ⟨O3, co3, rfl, ho3, hb3⟩
          have HO3 := Lib.hid ho3; have HB3 := Lib.hid (HBW.out.trans hb3)
          have hln := put_len out ⟨a.at_, a.fr + y⟩
          clear ho3 hb3
          go_wp2
          go_roundw
          case rel => exact ⟨(L), (b :: M), _, _, _, _, _, _, _, _, _, _, _, by omega, rfl, rfl, rfl, rfl, rfl, Lib.hid (by have := HN1.out; simpa using this), HN2, HL2, HM, HO3, HB3, HG, HF2⟩
          case measure => simp [lenV]
        · by_cases hlt2 : b.at_ < a.at_
          · obtain ⟨ab, ao, ea, a0, a1⟩ := (HL.out wr HB.out).cells 0 a rfl
            subst ea
            rw [Nat.zero_mul, Nat.add_zero] at a0 a1
            obtain ⟨ap, rfl⟩ : ∃ p, n1 = p + 1 := ⟨n1 - 1, by have := HN1.out; simp at this; omega⟩
            obtain ⟨bb, bo, eb, b0, b1⟩ := (HM.out wr HB.out).cells 0 b rfl
            subst eb
            rw [Nat.zero_mul, Nat.add_zero] at b0 b1
            obtain ⟨bp, rfl⟩ : ∃ p, n2 = p + 1 := ⟨n2 - 1, by have := HN2.out; simp at this; omega⟩
            have hq1 := HF.out.l
            have hq2 := HF.out.m
            have hqx := HF.out.x
            have hqy := HF.out.y
            have hqa := hq1 a (by simp)
            have hqb := hq2 b (by simp)
            have hs1 := fun W (hW : Below w.heap.size w W) => start_any (a :: L) (some ⟨ab, ao, none⟩) (ap + 1) c1 HN1.out W (HL.out W hW)
            have hs2 := fun W (hW : Below w.heap.size w W) => start_any (b :: M) (some ⟨bb, bo, none⟩) (bp + 1) d1 HN2.out W (HM.out W hW)
            rw [show startV (a :: L) = a.at_ from rfl] at hs1
            rw [show startV (b :: M) = b.at_ from rfl] at hs2
            have hlt3 : b.at_ ≤ a.at_ := by omega
            have hcut2 := fun W => cut_1 (some ⟨bb, bo, none⟩) bp d1 W
            have HG : Hid (∃ g, (a :: L).length + (M).length ≤ g ∧ togD g x b.fr (a :: L) (M) (putD out ⟨b.at_, x + b.fr⟩) = R) := Lib.hid (by
              obtain ⟨g, hg, hr⟩ := HR.out
              obtain ⟨g, rfl⟩ : ∃ q, g = q + 1 := ⟨g - 1, by simp at hg; omega⟩
              refine ⟨g, by simp at hg ⊢; omega, ?_⟩
              rw [← hr]
              show _ = (if a.at_ < b.at_ then _ else _); rw [if_neg hlt, if_pos hlt2])
            have hws : IntKind.i64.wrap (x + b.fr) = x + b.fr := IntWalk.i64_in _ (by omega)
            have HF2 : Hid (TogB (a :: L) (M) x b.fr) := Lib.hid ⟨fun s hs => hq1 s (by first | exact hs | simp [hs]), fun s hs => hq2 s (by first | exact hs | simp [hs]), by first | exact hqx | exact hqa.2, by first | exact hqy | exact hqb.2⟩
            have HM2 := Lib.hid (HM.out.cons)
            clear hq1 hq2 hqx hqy hqa hqb HF HR
            go_wp2_with fail
            refine (hs1 _ HB.out).mono ?_
            rintro e w1 ⟨rfl, rfl⟩
            go_wp2_with fail
            refine (hs2 _ HB.out).mono ?_
            rintro e w1 ⟨rfl, rfl⟩
            clear hs1 hs2
            go_wp2_with fail
            go_quiet (fail)
            have HBW : Hid (Below w.heap.size w (wr.drewN nq)) := Lib.hid (HB.out.trans ((drN wr nq).mono HB.out.size))
            have HOW : Hid (OwnS (wr.drewN nq) w.heap.size (.slice O out.length co) out) := Lib.hid (HO.out.below (drN wr nq))
            generalize wr.drewN nq = W2 at HBW HOW ⊢
            go_wp2_with fail
            refine (put_any out ⟨b.at_, x + b.fr⟩ w.heap.size O out.length co W2 HOW.out HBW.out.size (by omega)).mono ?_
            rintro e w3 ⟨O3, co3, rfl, ho3, hb3⟩
            have HO3 := Lib.hid ho3; have HB3 := Lib.hid (HBW.out.trans hb3)
            have hln := put_len out ⟨b.at_, x + b.fr⟩
            clear ho3 hb3
            go_wp2
            go_roundw
            case rel => exact ⟨(a :: L), (M), _, _, _, _, _, _, _, _, _, _, _, by omega, rfl, rfl, rfl, rfl, rfl, HN1, Lib.hid (by have := HN2.out; simpa using this), HL, HM2, HO3, HB3, HG, HF2⟩
            case measure => simp [lenV]
          · obtain ⟨ab, ao, ea, a0, a1⟩ := (HL.out wr HB.out).cells 0 a rfl
            subst ea
            rw [Nat.zero_mul, Nat.add_zero] at a0 a1
            obtain ⟨ap, rfl⟩ : ∃ p, n1 = p + 1 := ⟨n1 - 1, by have := HN1.out; simp at this; omega⟩
            obtain ⟨bb, bo, eb, b0, b1⟩ := (HM.out wr HB.out).cells 0 b rfl
            subst eb
            rw [Nat.zero_mul, Nat.add_zero] at b0 b1
            obtain ⟨bp, rfl⟩ : ∃ p, n2 = p + 1 := ⟨n2 - 1, by have := HN2.out; simp at this; omega⟩
            have hq1 := HF.out.l
            have hq2 := HF.out.m
            have hqx := HF.out.x
            have hqy := HF.out.y
            have hqa := hq1 a (by simp)
            have hqb := hq2 b (by simp)
            have hs1 := fun W (hW : Below w.heap.size w W) => start_any (a :: L) (some ⟨ab, ao, none⟩) (ap + 1) c1 HN1.out W (HL.out W hW)
            have hs2 := fun W (hW : Below w.heap.size w W) => start_any (b :: M) (some ⟨bb, bo, none⟩) (bp + 1) d1 HN2.out W (HM.out W hW)
            rw [show startV (a :: L) = a.at_ from rfl] at hs1
            rw [show startV (b :: M) = b.at_ from rfl] at hs2
            have hlt3 : b.at_ ≤ a.at_ := by omega
            have hlt4 : a.at_ ≤ b.at_ := by omega
            have hnv : (a.at_ == 1099511627776) = false := by rw [beq_eq_false_iff_ne]; omega
            have hcut1 := fun W => cut_1 (some ⟨ab, ao, none⟩) ap c1 W
            have hcut2 := fun W => cut_1 (some ⟨bb, bo, none⟩) bp d1 W
            have HG : Hid (∃ g, (L).length + (M).length ≤ g ∧ togD g a.fr b.fr (L) (M) (putD out ⟨a.at_, a.fr + b.fr⟩) = R) := Lib.hid (by
              obtain ⟨g, hg, hr⟩ := HR.out
              obtain ⟨g, rfl⟩ : ∃ q, g = q + 1 := ⟨g - 1, by simp at hg; omega⟩
              refine ⟨g, by simp at hg ⊢; omega, ?_⟩
              rw [← hr]
              show _ = (if a.at_ < b.at_ then _ else _); rw [if_neg hlt, if_neg hlt2])
            have hws : IntKind.i64.wrap (a.fr + b.fr) = a.fr + b.fr := IntWalk.i64_in _ (by omega)
            have HF2 : Hid (TogB (L) (M) a.fr b.fr) := Lib.hid ⟨fun s hs => hq1 s (by first | exact hs | simp [hs]), fun s hs => hq2 s (by first | exact hs | simp [hs]), by first | exact hqx | exact hqa.2, by first | exact hqy | exact hqb.2⟩
            have HL2 := Lib.hid (HL.out.cons)
            have HM2 := Lib.hid (HM.out.cons)
            clear hq1 hq2 hqx hqy hqa hqb HF HR
            go_wp2_with fail
            refine (hs1 _ HB.out).mono ?_
            rintro e w1 ⟨rfl, rfl⟩
            go_wp2_with fail
            refine (hs2 _ HB.out).mono ?_
            rintro e w1 ⟨rfl, rfl⟩
            clear hs1 hs2
            go_wp2_with fail
            go_quiet (fail)
            have b2 := kp (drN wr nq) b0
            have b3 := kp (drN wr nq) b1
            have HB1 := Lib.hid (HB.out.trans ((drN wr nq).mono HB.out.size))
            have HO1 := Lib.hid (HO.out.below (drN wr nq))
            generalize wr.drewN nq = W1 at b2 b3 HB1 HO1 ⊢
            clear b0 b1 HB HO nq
            go_wp2_with fail
            go_quiet (fail)
            have HBW : Hid (Below w.heap.size w (W1.drewN nq)) := Lib.hid (HB1.out.trans ((drN W1 nq).mono HB1.out.size))
            have HOW : Hid (OwnS (W1.drewN nq) w.heap.size (.slice O out.length co) out) := Lib.hid (HO1.out.below (drN W1 nq))
            generalize W1.drewN nq = W2 at HBW HOW ⊢
            go_wp2_with fail
            refine (put_any out ⟨a.at_, a.fr + b.fr⟩ w.heap.size O out.length co W2 HOW.out HBW.out.size (by omega)).mono ?_
            rintro e w3 ⟨O3, co3, rfl, ho3, hb3⟩
            have HO3 := Lib.hid ho3; have HB3 := Lib.hid (HBW.out.trans hb3)
            have hln := put_len out ⟨a.at_, a.fr + b.fr⟩
            clear ho3 hb3
            go_wp2
            go_roundw
            case rel => exact ⟨(L), (M), _, _, _, _, _, _, _, _, _, _, _, by omega, rfl, rfl, rfl, rfl, rfl, Lib.hid (by have := HN1.out; simpa using this), Lib.hid (by have := HN2.out; simpa using this), HL2, HM2, HO3, HB3, HG, HF2⟩
            case measure => simp [lenV]; omega
end Go.Proofs.Ytapojmniokdjfaa.Stp

