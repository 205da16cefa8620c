/- Layer 11: Copy. -/
import Derived.Test.YtapojmniokdjfaaBkDone
import Derived.Test.YtapojmniokdjfaaBkLay
namespace Go.Proofs.Ytapojmniokdjfaa.Bk
open Go.RowKit Go.Shelf
open Stp (blw al dr drN kp Stp OwnS RetP clone_any)
open Ft (wp_region_R wpAnyR_leadI wpLeadI wpLeadI_read wpLeadI_skip wpAnyR_one wpAnyR_tail)
set_option linter.unusedVariables false
set_option maxRecDepth 100000
theorem mclone_any (b : Nat) (L : List SlotD) (w : World) (h : MapS w b L) :
    Calls Try.prog 42 #[.map (some b)] w fun e w' => ∃ m, e = .returned (.map (some m)) ∧ MapS w' m L ∧ w.heap.size ≤ m ∧ Below w.heap.size w w' := by
  obtain ⟨D, ho, hd⟩ := h.own
  exact (AnyW.maps_Clone_owns Try.laysMapClone 3 slR b L.length D w ho).mono fun e w' h => ⟨w.heap.size, h.1, ⟨D, h.2.1, hd⟩, Nat.le_refl _, h.2.2.2⟩
set_option maxHeartbeats 1600000 in
theorem copy_any (w : World) (g m : Nat) (N : Int) (F : List StepD) (L : List SlotD) (hF : Prof F) (hn : F.length ≤ 1000) (h : BookM w g m N F L) :
    Calls Try.prog 23 #[.pointer (some ⟨g, 0, none⟩)] w fun e w' => ∃ g' m', e = .returned (.pointer (some ⟨g', 0, none⟩)) ∧ BookM w' g' m' N F L ∧ w.heap.size ≤ g' ∧ w.heap.size ≤ m' ∧ Below w.heap.size w w' := by
  obtain ⟨A, c, hs, c0, c1, c2, cf⟩ := h.cells
  obtain ⟨s0, r0, e0, _⟩ := hF.zero
  obtain ⟨b, off, s, eA, _, _, _⟩ := hs.lt (k := 0) (by rw [e0]; simp)
  subst eA
  have HMC := Lib.hid fun (W : World) (hW : Below w.heap.size w W) => mclone_any m L W ((h.below hW).map)
  have HC := Lib.hid fun (W : World) (hW : Below w.heap.size w W) => clone_any F b off F.length c rfl hn W (hs.below hW)
  have HK := Lib.hid fun (W : World) (hW : Below w.heap.size w W) => And.intro (kp hW c0) (And.intro (kp hW c1) (kp hW c2))
  have HH := Lib.hid h
  clear hs e0 h
  go_enter Try.func23, Try.ntmps23
  go_wp2_with fail
  refine wp_region_R (Below w.heap.size w) 17 (by kernel_rfl) ?_
  refine wpAnyR_leadI (by kernel_rfl) ?hQ ?hS0 [0, 1, 2, 3, 4, 5, 6, 7, 9, 10, 11, 12] 5 _ _ (by kernel_rfl) ?_
  case hQ => intro c a d v w h; cases d <;> exact h
  case hS0 => exact dr w
  iterate 12 (refine wpLeadI_read (v := ?_) _ rfl rfl (by rfl) ?_ ?_; rotate_left; (intro W hW; obtain ⟨q0, q1, q2⟩ := HK.out W hW; go_simp; (try with_reducible rfl)); try simp only [Act.put, List.setIfInBounds_toArray, List.set_cons_succ, List.set_cons_zero])
  simp only [wpLeadI]
  refine wpAnyR_one (i := 8) rfl (by kernel_rfl) ?_
  intro K1 hK1
  go_simp
  refine (HMC.out _ (dr w)).mono ?_
  rintro e w1 ⟨m', rfl, hm1, hm2, hb1⟩
  have HM1 := Lib.hid hm1; have HML := Lib.hid hm2
  have HB1 := Lib.hid (blw (dr w) hb1)
  clear hm1 hm2 hb1
  refine hK1.out _ _ HB1.out ?_
  clear hK1 K1
  try simp only [Act.put, List.setIfInBounds_toArray, List.set_cons_succ, List.set_cons_zero]
  refine wpAnyR_one (i := 13) rfl (by kernel_rfl) ?_
  intro K1 hK1
  go_simp
  refine (HC.out _ HB1.out).mono ?_
  rintro e w2 ⟨A2, c2', rfl, ho2, hb2⟩
  have HS2 := Lib.hid ho2.stp.2
  have HM2 := Lib.hid (HM1.out.below hb2)
  have HB2 := Lib.hid (blw HB1.out hb2)
  clear ho2 hb2
  refine hK1.out _ _ HB2.out ?_
  clear hK1 K1
  try simp only [Act.put, List.setIfInBounds_toArray, List.set_cons_succ, List.set_cons_zero]
  refine wpAnyR_leadI (by kernel_rfl) ?hQ ?hS0 [14] 2 _ _ (by kernel_rfl) ?_
  case hQ => intro c a d v w h; cases d <;> exact h
  case hS0 => exact HB2.out
  iterate 1 (refine wpLeadI_read (v := ?_) _ rfl rfl (by rfl) ?_ ?_; rotate_left; (intro W hW; obtain ⟨q0, q1, q2⟩ := HK.out W hW; go_simp; (try with_reducible rfl)); try simp only [Act.put, List.setIfInBounds_toArray, List.set_cons_succ, List.set_cons_zero])
  simp only [wpLeadI]
  have HX := Lib.hid (al w2 (.cells #[.int .i64 N, .map (some m'), .slice A2 F.length c2'] 65))
  refine wpAnyR_one (i := 15) rfl (by kernel_rfl) ?_
  intro K1 hK1
  go_simp
  refine hK1.out _ _ (blw HB2.out HX.out) ?_
  clear hK1 K1
  try simp only [Act.put, List.setIfInBounds_toArray, List.set_cons_succ, List.set_cons_zero]
  refine wpAnyR_leadI (by kernel_rfl) ?hQ ?hS0 [16] 0 _ _ (by kernel_rfl) ?_
  case hQ => intro c a d v w h; cases d <;> exact h
  case hS0 => exact blw HB2.out HX.out
  iterate 1 (refine wpLeadI_read (v := ?_) _ rfl rfl (by rfl) ?_ ?_; rotate_left; (intro W hW; obtain ⟨q0, q1, q2⟩ := HK.out W hW; go_simp; (try with_reducible rfl)); try simp only [Act.put, List.setIfInBounds_toArray, List.set_cons_succ, List.set_cons_zero])
  simp only [wpLeadI]
  refine ⟨by kernel_rfl, ?_⟩
  go_wp2
  go_ret
  have hx := heap_alloc_new w2 (.cells #[.int .i64 N, .map (some m'), .slice A2 F.length c2'] 65)
  refine ⟨_, m', rfl, ⟨⟨A2, c2', hx, HS2.out.below HX.out⟩, HM2.out.below HX.out⟩, HB2.out.size, ?_, blw HB2.out HX.out⟩
  have := HML.out
  exact this
/-- ints that are an argument -/
structure IdsA (w : World) (A : Option Addr) (c : Nat) (l : List Int) : Prop where
  its : Its w A l
  wf : ∀ x ∈ l, (Lit.int .i64 x).wf = true
  cap : l.length ≤ c
  top : c ≤ maxLen
section
open Go.ChangeShapes Go.WideShapes Go.ChangeAt Go.Lib
variable {H : Type} {enc : TypeId × Value → H} {w : World}
theorem ids_arg {fuel : Nat} {v : Value} {x : DataW H × List MemPlace} (h : DataW.trod enc Try.prog w 0 (fun _ => true) true fuel 28 [v] = some x) :
    ∃ (A : Option Addr) (c : Nat) (l : List Int), v = .slice A l.length c ∧ IdsA w A c l := by
  rcases Go.Deep.open_slice Try.underlying28 h with ⟨hcs, hx⟩ | ⟨a, l, c, m, n, D, Pl, hcs, _, hl, hm, hmm, hx, hi⟩
  · simp at hcs
    subst hcs hx
    exact ⟨none, 0, [], rfl, ⟨Its.nil _ _, fun x hx => (by cases hx), Nat.le_refl _, Nat.zero_le _⟩⟩
  · simp at hcs
    subst hcs
    simp only [if_true] at hmm
    have each : ∀ i, i < l → ∃ x : Int, w.cell? (a.add i) = some (.int .i64 x) ∧ (Lit.int .i64 x).wf = true := by
      intro i hil
      obtain ⟨cs', h1, h2⟩ := hi i (by omega)
      rw [Stp.c_int] at h1
      obtain ⟨_, hcl, hat⟩ := World.cells?_some h1
      obtain ⟨y, rfl, _, hw⟩ := DataW.trod_int Try.underlying3 h2
      simp only [Go.Deep.add_add] at hat
      exact ⟨y, by simpa using hat 0 (by omega), hw⟩
    have H2 : ∀ j, j ≤ l → ∃ ts : List Int, ts.length = j ∧ (∀ x ∈ ts, (Lit.int .i64 x).wf = true) ∧ ∀ k x, ts[k]? = some x → w.cell? (a.add k) = some (.int .i64 x) := by
      intro j
      induction j with
      | zero => exact fun _ => ⟨[], rfl, fun d hd => (by cases hd), fun k xs hx => by simp at hx⟩
      | succ j ih =>
        intro hj
        obtain ⟨ts, e1, e2, e3⟩ := ih (by omega)
        obtain ⟨d, f, hw⟩ := each j (by omega)
        refine ⟨ts ++ [d], by simp [e1], fun u hu => ?_, fun k ys hy => ?_⟩
        · rcases List.mem_append.1 hu with q | q
          · exact e2 u q
          · simp at q; subst q; exact hw
        · rcases Nat.lt_or_ge k j with hlt | hge
          · rw [List.getElem?_append_left (by omega)] at hy
            exact e3 k ys hy
          · rw [List.getElem?_append_right (by omega), e1] at hy
            have hk : k = j := by
              have := (List.getElem?_eq_some_iff.1 hy).1
              simp at this; omega
            subst hk
            simp at hy
            subst hy
            exact f
    obtain ⟨ts, e1, e2, e3⟩ := H2 l (Nat.le_refl _)
    refine ⟨some a, c, ts, by rw [e1], ⟨⟨fun k s hk => ?_⟩, e2, by omega, hm⟩⟩
    obtain ⟨b, off, rfl⟩ : ∃ b off, a = ⟨b, off, none⟩ := by
      obtain ⟨s0, h0⟩ : ∃ s, ts[0]? = some s := ⟨_, List.getElem?_eq_getElem (Nat.lt_of_le_of_lt (Nat.zero_le _) (List.getElem?_eq_some_iff.1 hk).1)⟩
      have g0 := e3 0 s0 h0
      obtain ⟨b, off, spot⟩ := a
      have hspot : spot = none := by simpa [Addr.add] using World.cell?_spot g0
      subst hspot
      exact ⟨b, off, rfl⟩
    have g0 := e3 k s hk
    simp only [Go.WideShapes.add_plain] at g0
    exact ⟨b, off, rfl, g0⟩
end
/-- one more freed, one by one -/
theorem free_more {F Fd F2 : List StepD} {L Md M2 M : List SlotD} {G : List SlotD} {ids : List Int} {q : Nat} {x e0 : Int} (hall : freeR ids L = some M) (hx : ids[q]? = some x) (hq : freeR (ids.take q) L = some Md) (hF : FreeI L Md G) (hv : ∀ t, 0 ≤ t → valF 0 Fd t = valF 0 F t + takV G t)
    (h : FreeO Fd Md [x] e0 F2 M2) : e0 = 0 ∧ freeR (ids.take (q + 1)) L = some M2 ∧ Prof F2 ∧ ∃ G2, FreeI L M2 G2 ∧ ∀ t, 0 ≤ t → valF 0 F2 t = valF 0 F t + takV G2 t := by
  have htk : ids.take (q + 1) = ids.take q ++ [x] := by rw [List.take_add_one, hx, Option.toList_some]
  have hs := freeR_snoc (ids.take q) x L Md hq
  rw [← htk] at hs
  cases hf : fndS x Md with
  | none =>
    rw [hf] at hs
    have := freeR_none _ (ids.drop (q + 1)) L hs
    rw [List.take_append_drop, hall] at this
    cases this
  | some s =>
    rw [hf] at hs
    have hr : freeR [x] Md = some (remS x Md) := by simp only [freeR, hf]
    rcases h with ⟨a, _⟩ | ⟨G1, a, b, h1, h2, h3⟩
    · rw [hr] at a; cases a
    · rw [hr] at a
      injection a with a
      subst a
      refine ⟨b, hs, h2, G ++ [s], hF.step hf, fun t ht => ?_⟩
      have z1 := h1.tak t
      have z2 := tak_rem t hF.rise hf
      rw [h3 t ht, hv t ht, tak_app]
      simp only [takV]
      omega
theorem free_same {F F1 F2 : List StepD} {L M G1 G2 : List SlotD} (hp1 : Prof F1) (hp2 : Prof F2) (h1 : FreeI L M G1) (h2 : FreeI L M G2) (v1 : ∀ t, 0 ≤ t → valF 0 F1 t = valF 0 F t + takV G1 t) (v2 : ∀ t, 0 ≤ t → valF 0 F2 t = valF 0 F t + takV G2 t) : F1 = F2 :=
  Stp.prof_uniq hp1 hp2 fun t ht => by rw [v1 t ht, v2 t ht]; have := h1.tak t; have := h2.tak t; omega
end Go.Proofs.Ytapojmniokdjfaa.Bk

