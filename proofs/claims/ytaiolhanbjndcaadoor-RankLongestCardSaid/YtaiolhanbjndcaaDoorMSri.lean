/- A row of ints that is written in place: block g, from its start; each int with a key (at_).
   slices' swapRange and rotate, of ints.
   slices' insertion sort of ints, in full. -/
import Derived.Test.YtaiolhanbjndcaaDoorMTab
import Derived.Test.YtaiolhanbjndcaaDoorMSrt
import Derived.Deep.MidRow
import Derived.Test.YtaiolhanbjndcaaDoorMSeq
namespace Go.Proofs.YtaiolhanbjndcaaDoor.Sri
open Go.RowKit Go.Shelf Go.Proofs.YtaiolhanbjndcaaDoor.Srt
set_option linter.unusedVariables false
set_option maxRecDepth 100000
theorem dr (w : World) : Below w.heap.size w w.drew := ⟨rfl, rfl, rfl, Nat.le_refl _, fun _ _ => rfl⟩
theorem kp {w w' : World} {b o : Nat} {v : Value} (hb : Below w.heap.size w w') (h : w.cell? ⟨b, o, none⟩ = some v) : w'.cell? ⟨b, o, none⟩ = some v := (hb.cell (p := ⟨b, o, none⟩) (World.block_lt_of_cell? w _ h)).trans h
def cmpV (x y : Int) : Int := if x < y then -1 else if y < x then 1 else 0
theorem cmpV_neg {x y : Int} : cmpV x y < 0 ↔ x < y := by
  unfold cmpV
  by_cases h : x < y
  · rw [if_pos h]; omega
  · rw [if_neg h]
    by_cases h2 : y < x
    · rw [if_pos h2]; omega
    · rw [if_neg h2]; omega
theorem grown_refl (w : World) (r : Option Nat) : w.grownBy w r := ⟨rfl, rfl, rfl, Nat.le_refl _, fun _ _ _ => rfl⟩
theorem grown_trans {a b d : World} {r : Option Nat} (h : a.grownBy b r) (k : b.grownBy d r) : a.grownBy d r :=
  ⟨k.os.trans h.os, k.tape.trans h.tape, k.output.trans h.output, Nat.le_trans h.size k.size, fun i hi hr => (k.block i (Nat.lt_of_lt_of_le hi h.size) hr).trans (h.block i hi hr)⟩
theorem Below.grow {a b : World} (h : Below a.heap.size a b) (r : Option Nat) : a.grownBy b r := ⟨h.os, h.tape, h.output, h.size, fun i hi _ => h.block i hi⟩
structure RowI (ok : StepD → Prop) (w : World) (g c : Nat) (X : List StepD) : Prop where
  blk : ∃ cur : Array Value, w.heap[g]? = some (Obj.cells cur 3 (0, 0)) ∧ cur.size = c ∧ ∀ (k : Nat) (s : StepD), X[k]? = some s → cur[k]? = some (Value.int .i64 s.fr)
  cap : X.length ≤ c
  top : c ≤ maxLen
  oks : ∀ s ∈ X, ok s
section
variable {ok : StepD → Prop} {w w' : World} {g c : Nat} {X : List StepD}
theorem RowI.lt (h : RowI ok w g c X) {k : Nat} (hk : k < X.length) : ∃ s, X[k]? = some s ∧ w.cell? ⟨g, k, none⟩ = some (.int .i64 s.fr) ∧ ok s := by
  obtain ⟨cur, h1, h2, h3⟩ := h.blk
  have e : X[k]? = some X[k] := List.getElem?_eq_getElem hk
  exact ⟨X[k], e, by rw [Dag.blk_cell h1]; exact h3 k _ e, h.oks _ (List.getElem_mem hk)⟩
theorem RowI.glt (h : RowI ok w g c X) : g < w.heap.size := by obtain ⟨cur, h1, _⟩ := h.blk; exact Dag.blk_lt h1
theorem RowI.below (h : RowI ok w g c X) (hb : Below w.heap.size w w') : RowI ok w' g c X := by
  obtain ⟨cur, h1, h2, h3⟩ := h.blk
  exact ⟨⟨cur, by rw [hb.block g (Dag.blk_lt h1)]; exact h1, h2, h3⟩, h.cap, h.top, h.oks⟩
/-- what the row's block says of any ints -/
theorem RowI.ints (h : RowI ok w g c X) : Dag.Ints w (some ⟨g, 0, none⟩) c (X.map (·.fr)) := by
  obtain ⟨cur, h1, h2, h3⟩ := h.blk
  refine ⟨fun k u hk => ⟨g, 0, rfl, ?_⟩, by simpa [Dag.ints] using h.cap, h.top, fun e => by cases e⟩
  rw [Dag.ints, List.getElem?_map, List.getElem?_map] at hk
  cases e : X[k]? with
  | none => rw [e] at hk; simp at hk
  | some s =>
    rw [e] at hk
    simp only [Option.map_some, Option.some.injEq] at hk
    subst hk
    rw [Nat.zero_add, Dag.blk_cell h1]; exact h3 k s e
theorem RowI.of_own {base n : Nat} {A : Option Addr} {xs : List Int} (h : Dag.OwnI w base (.slice A n c) xs) (hn : 0 < xs.length) (hX : X.map (·.fr) = xs) (hok : ∀ s ∈ X, ok s) : ∃ g, A = some ⟨g, 0, none⟩ ∧ base ≤ g ∧ n = X.length ∧ RowI ok w g c X := by
  rcases h.2 with ⟨hv, hl⟩ | ⟨g, cap, cur, hv, hbg, hh, h1, h2, h3, h4⟩
  · simp only [Dag.ints, List.length_map] at hl; omega
  · injection hv with e1 e2 e3
    subst e1 e3
    have hlen : X.length = xs.length := by rw [← hX, List.length_map]
    refine ⟨g, rfl, hbg, by rw [e2]; simp [Dag.ints, hlen], ⟨⟨cur, hh, by rw [h3]; omega, fun k s hk => ?_⟩, by simpa [Dag.ints, hlen] using h1, h2, hok⟩⟩
    have hk1 := (List.getElem?_eq_some_iff.1 hk).1
    have e' : (cur.toList.take ((Dag.ints xs).length * 1))[k]? = some (.int .i64 s.fr) := by
      rw [h4, ← hX, Dag.ints, List.getElem?_map, List.getElem?_map, hk]; rfl
    rw [List.getElem?_take, if_pos (by simp [Dag.ints]; omega)] at e'
    rw [← e', Array.getElem?_toList]
/-- one stored in place -/
theorem RowI.put (h : RowI ok w g c X) {k : Nat} (hk : k < X.length) (u : StepD) (hu : ok u) : RowI ok (w.setCell ⟨g, k, none⟩ (.int .i64 u.fr)) g c (X.set k u) ∧ w.grownBy (w.setCell ⟨g, k, none⟩ (.int .i64 u.fr)) (some g) := by
  obtain ⟨cur, h1, h2, h3⟩ := h.blk
  have hc := h.cap
  refine ⟨⟨⟨_, Dag.blk_set h1 k _, by rw [Array.size_setIfInBounds]; exact h2, fun i s hi => ?_⟩, by rw [List.length_set]; exact hc, h.top, fun s hs => ?_⟩, rfl, rfl, rfl, by simp [World.setCell], fun i _ hr => Dag.blk_other (fun e => hr (by rw [e]))⟩
  · by_cases q : k = i
    · subst q
      rw [List.getElem?_set_self hk] at hi
      injection hi with hi
      subst hi
      rw [Array.getElem?_setIfInBounds_self_of_lt (by omega)]
    · rw [List.getElem?_set_ne q] at hi
      rw [Array.getElem?_setIfInBounds_ne q]
      exact h3 i s hi
  · rcases List.mem_or_eq_of_mem_set hs with q | q
    · exact h.oks s q
    · rw [q]; exact hu
theorem RowI.there (h : RowI ok w g c X) {k : Nat} (hk : k < X.length) : w.there g k 1 := by
  obtain ⟨cur, h1, h2, h3⟩ := h.blk
  have hc := h.cap
  intro j hj
  refine ⟨?_, Dag.blk_frozen h1 _⟩
  rw [Dag.blk_cell h1, Array.getElem?_eq_getElem (by omega)]; rfl
end
theorem wpList_puti {ok : StepD → Prop} {w : World} {ops : Array Oper} {rest : List Oper} {op : Oper} {a : Act} {Q : Exit → Act → World → Prop} (hgd : op.guard = none) (x y : Operand) (ho : op.op = .store 3 x y)
    (g c : Nat) (X : List StepD) (k : Nat) (u : StepD) (o : Nat) (hx : a.eval x = .pointer (some ⟨g, o, none⟩)) (hok : o = k) (hy : a.eval y = .int .i64 u.fr) (hb : RowI ok w g c X) (hu : ok u) (hk : k < X.length)
    (h : ∀ w', RowI ok w' g c (X.set k u) → w.grownBy w' (some g) → wpList Tryd.prog ops Q rest (a.put op.dst undef) w') : wpList Tryd.prog ops Q (op :: rest) a w := by
  subst hok
  obtain ⟨i0, hi0, hz0, hz1, hz2⟩ := info_parts Dag.info_int
  obtain ⟨h1, h2⟩ := hb.put hk u hu
  have hr := run_storeCells_cells (P := Tryd.prog) g o [.int .i64 u.fr] 0 w (fun j hj => by simpa using (hb.there hk j (by simpa using hj)).1) (fun j hj => by simpa using (hb.there hk j (by simpa using hj)).2) (fun v hv => by simp only [List.mem_singleton] at hv; subst hv; rfl)
  refine wpList_plain hgd fun _ hK => ?_
  unfold Oper.wp execOp
  have hs : (storeVar 3 ⟨g, o, none⟩ (.int .i64 u.fr)).run Tryd.prog w = .ok () (w.setCell ⟨g, o, none⟩ (.int .i64 u.fr)) := by
    simp only [Nat.add_zero] at hr
    simp only [storeVar, sizeOf, typeInfo, Value.cells, World.setCells] at hr ⊢
    simp [hi0, hz1, hr]
  simp only [ho, hx, hy, Instr.storeAt, Instr.sureAddr, Sem.run_bind, Sem.run_pure, Result.andThen_ok, hs]
  exact hK _ _ (h _ h1 h2)
theorem nan_any (x : Int) (w : World) : Calls Tryd.prog 40 #[.int .i64 x] w fun e w' => e = .returned (.bool false) ∧ w = w' := by
  have hx : (x != x) = false := by simp
  go_enter Tryd.func40, Tryd.ntmps40
  go_wp2
  go_ret
  exact ⟨by simp, rfl⟩
theorem compare_any (x y : Int) (w : World) : Calls Tryd.prog 24 #[.int .i64 x, .int .i64 y] w fun e w' => e = .returned (.int .i64 (cmpV x y)) ∧ w = w' := by
  have hx := fun (W : World) => nan_any x W
  have hy := fun (W : World) => nan_any y W
  obtain ⟨v, hv⟩ : ∃ v, cmpV x y = v := ⟨_, rfl⟩
  rw [hv]
  unfold cmpV at hv
  by_cases h1 : x < y
  · rw [if_pos h1] at hv
    subst hv
    go_enter Tryd.func24, Tryd.ntmps24
    go_wp2_with fail
    refine (hx _).mono ?_
    rintro e w1 ⟨rfl, rfl⟩
    go_wp2_with fail
    refine (hy _).mono ?_
    rintro e w1 ⟨rfl, rfl⟩
    go_wp2
    go_ret
    exact ⟨rfl, rfl⟩
  · rw [if_neg h1] at hv
    by_cases h2 : y < x
    · rw [if_pos h2] at hv
      subst hv
      go_enter Tryd.func24, Tryd.ntmps24
      go_wp2_with fail
      refine (hx _).mono ?_
      rintro e w1 ⟨rfl, rfl⟩
      go_wp2_with fail
      refine (hy _).mono ?_
      rintro e w1 ⟨rfl, rfl⟩
      go_wp2
      go_ret
      exact ⟨rfl, rfl⟩
    · rw [if_neg h2] at hv
      subst hv
      go_enter Tryd.func24, Tryd.ntmps24
      go_wp2_with fail
      refine (hx _).mono ?_
      rintro e w1 ⟨rfl, rfl⟩
      go_wp2_with fail
      refine (hy _).mono ?_
      rintro e w1 ⟨rfl, rfl⟩
      go_wp2
      go_ret
      exact ⟨rfl, rfl⟩
/-- the closure's contract: it compares by keys, wherever only block g has been written -/
def CmpC (ok : StepD → Prop) (ub : Nat) (w0 : World) (g : Nat) : Prop := ∀ (W : World) (s u : StepD), w0.grownBy W (some g) → ok s → ok u →
    Calls Tryd.prog 23 #[.int .i64 s.fr, .int .i64 u.fr, .pointer (some ⟨ub, 0, none⟩)] W fun e w' => e = .returned (.int .i64 (cmpV s.at_ u.at_)) ∧ Below W.heap.size W w'
theorem set_via {X : List StepD} {i j : Nat} {s u : StepD} (hs : X[i]? = some s) (hu : X[j]? = some u) : Via (swI i j 1) X ((X.set i u).set j s) := by
  have hi := (List.getElem?_eq_some_iff.1 hs).1
  have hj := (List.getElem?_eq_some_iff.1 hu).1
  refine ⟨by simp, fun k hk => ?_⟩
  unfold swI
  by_cases q1 : k = i
  · subst q1
    rw [if_pos (by omega), Nat.sub_self, Nat.add_zero, hu]
    by_cases q : j = k
    · subst q
      rw [List.getElem?_set_self (by simp; exact hj)]
      rw [← hs, hu]
    · rw [List.getElem?_set_ne q, List.getElem?_set_self hi]
  · rw [if_neg (by omega)]
    by_cases q2 : k = j
    · subst q2
      rw [if_pos (by omega), List.getElem?_set_self (by simp; exact hj), Nat.sub_self, Nat.add_zero, hs]
    · rw [if_neg (by omega), List.getElem?_set_ne (fun e => q2 e.symm), List.getElem?_set_ne (fun e => q1 e.symm)]
end Go.Proofs.YtaiolhanbjndcaaDoor.Sri
namespace Go.Proofs.YtaiolhanbjndcaaDoor.Sri
open Go.RowKit Go.Shelf Go.Proofs.YtaiolhanbjndcaaDoor.Srt Go.Proofs.YtaiolhanbjndcaaDoor.Ft
set_option linter.unusedVariables false
set_option maxRecDepth 100000
theorem wpAnyR_weak {P : Program} {ops : Array Oper} {Q : Exit → Act → World → Prop} {md : Region.Mode} {S : World → Prop} {n m : Nat} : ∀ (fuel : Nat) (listed : Array Bool) (a : Act) (w : World), Ft.wpAnyR P md ops Q S n fuel listed a w → Ft.wpAnyR P md ops Q (fun _ => True) m fuel listed a w
  | 0, _, _, _, h => h
  | fuel + 1, _, _, _, h => ⟨h.1, fun i hi => wpOp_mono (fun a' w' h' => ⟨Or.inr trivial, wpAnyR_weak fuel _ a' w' h'.2⟩) (h.2 i hi)⟩
set_option maxHeartbeats 1600000 in
theorem swap_any (g c n a b k : Nat) (X : List StepD) (ok : StepD → Prop) (hn : X.length = n) (hb : n ≤ 1000) (ha : a + k ≤ n) (hbk : b + k ≤ n) (hd : a + k ≤ b ∨ b + k ≤ a) (w : World) (h : RowI ok w g c X) (cmp : Value) :
    Calls Tryd.prog 85 #[.slice (some ⟨g, 0, none⟩) n c, .int .i64 a, .int .i64 b, .int .i64 k, cmp] w fun e w' => e = .returned (.tuple #[]) ∧ w.grownBy w' (some g) ∧ ∃ Y, RowI ok w' g c Y ∧ Via (swI a b k) X Y := by
  have H := Lib.hid h; have HN := Lib.hid hn
  clear h hn
  go_enter Tryd.func85, Tryd.ntmps85
  go_wp2_with fail
  go_loopw [10] (fun vi wr => ∃ (i : Nat) (Z : List StepD), i ≤ k ∧ vi = .int .i64 i ∧ Hid (RowI ok wr g c Z) ∧ Hid (w.grownBy wr (some g)) ∧ Hid (Via (swI a b i) X Z)) (fun vi _ => k - (intOf vi).toNat)
  case atStart =>
    refine ⟨0, X, Nat.zero_le _, rfl, H, Lib.hid (grown_refl _ _), Lib.hid ((Via.refl X).congr fun q hq => ?_)⟩
    unfold swI
    rw [if_neg (by omega), if_neg (by omega)]
  case round =>
    obtain ⟨i, Z, hi, rfl, HZ, HW, HV⟩ := hrel
    by_cases hlt : i < k
    · have hZl := HV.out.1
      obtain ⟨s, hs, c0, os⟩ := HZ.out.lt (k := a + i) (by rw [hZl, HN.out]; omega)
      obtain ⟨u, hu, d0, ou⟩ := HZ.out.lt (k := b + i) (by rw [hZl, HN.out]; omega)
      have HV2 : Hid (∀ Y, Via (swI (a + i) (b + i) 1) Z Y → Via (swI a b (i + 1)) X Y) := fun Y hY => (HV.out.trans hY (fun q hq => sw_lt (by rw [HN.out]; omega) (by rw [HN.out]; omega) hq)).congr fun q hq => sw_next (by omega)
      have HU := Lib.hid (set_via hs hu); have OS := Lib.hid os; have OU := Lib.hid ou
      have HL1 : Hid (a + i < Z.length) := by show _ < _; rw [hZl, HN.out]; omega
      have HL2 : Hid (∀ v, b + i < (Z.set (a + i) v).length) := fun v => by rw [List.length_set, hZl, HN.out]; omega
      have a1 : IntKind.i64.wrap ((a : Int) + (i : Int)) = ((a + i : Nat) : Int) := by rw [IntWalk.i64_in _ (by omega)]; omega
      have a2 : IntKind.i64.wrap ((b : Int) + (i : Int)) = ((b + i : Nat) : Int) := by rw [IntWalk.i64_in _ (by omega)]; omega
      have q1 : a + i < n := by omega
      have q2 : b + i < n := by omega
      clear hs hu hZl
      generalize hp : a + i = p at *
      generalize hr : b + i = r at *
      have HP := Lib.hid hp; have HR := Lib.hid hr
      clear hp hr
      go_wp2_with fail
      have s0 : wr.drew.cell? ⟨g, p, none⟩ = some (.int .i64 s.fr) ∧ wr.drew.cell? ⟨g, r, none⟩ = some (.int .i64 u.fr) := ⟨c0, d0⟩
      clear c0 d0
      have HZD := Lib.hid (HZ.out.below (dr wr))
      have HWD := Lib.hid (grown_trans HW.out (Below.grow (dr wr) (some g)))
      refine Ft.wp_region_R (fun _ => True) 24 (by kernel_rfl) ?_
      generalize wr.drew = W0 at s0 HZD HWD ⊢
      refine Ft.wpAnyR_leadI (by kernel_rfl) ?hQ trivial [0, 1, 2, 3, 4, 5, 6, 7, 8, 9, 10, 11, 12, 14, 15, 16, 17, 18] 6 _ _ (by kernel_rfl) ?_
      case hQ => intro c a d v w h; cases d <;> exact h
      iterate 18 (refine Ft.wpLeadI_read (v := ?_) _ rfl rfl (by rfl) ?_ ?_; rotate_left; (intro W hW; (try dsimp only at hW); go_simp; (try simp only [a1, a2]); (try go_simp); (try with_reducible rfl)); try simp only [Act.put, List.setIfInBounds_toArray, List.set_cons_succ, List.set_cons_zero])
      simp only [Ft.wpLeadI]
      refine wpAnyR_weak (S := fun W => W = W0) (n := 20) _ _ _ _ ?_
      refine Ft.wpAnyR_leadI (S := fun W => W = W0) (by kernel_rfl) ?hQ2 (w := W0) rfl [13, 19] 4 _ _ (by kernel_rfl) ?_
      case hQ2 => intro c a d v w h; cases d <;> exact h
      iterate 2 (refine Ft.wpLeadI_read (v := ?_) _ rfl rfl (by rfl) ?_ ?_; rotate_left; (intro W hW; (try dsimp only at hW); rw [hW]; go_simp; (try with_reducible rfl)); try simp only [Act.put, List.setIfInBounds_toArray, List.set_cons_succ, List.set_cons_zero])
      simp only [Ft.wpLeadI]
      refine Ft.wpAnyR_tail (n := 20) rfl (by kernel_rfl) ?_
      go_wp2_with (first
        | (refine wpList_puti rfl _ _ rfl g c _ r s r (by simp [Act.eval]) rfl (by simp [Act.eval]) H1.out OS.out (HL2.out u) ?_; intro W2 h2 g2; have H2 := Lib.hid h2; have G2 := Lib.hid (grown_trans G1.out g2); clear h2 g2)
        | (refine wpList_puti rfl _ _ rfl g c Z p u p (by simp [Act.eval]) rfl (by simp [Act.eval]) HZD.out OU.out HL1.out ?_; intro W1 h1 g1; have H1 := Lib.hid h1; have G1 := Lib.hid (grown_trans HWD.out g1); clear h1 g1))
      go_roundw
      case rel => exact ⟨i + 1, _, by omega, by go_num, H2, G2, Lib.hid (HV2.out _ HU.out)⟩
      case measure => simp [intOf]; omega
    · obtain rfl : i = k := by omega
      go_wp2
      go_end0
      exact ⟨rfl, HW.out, Z, HZ.out, HV.out⟩
set_option maxHeartbeats 1600000 in
theorem rot_any (g c n a m b : Nat) (X : List StepD) (ok : StepD → Prop) (hn : X.length = n) (hb : n ≤ 1000) (ham : a < m) (hmb : m < b) (hbn : b ≤ n) (w : World) (h : RowI ok w g c X) (cmp : Value) :
    Calls Tryd.prog 66 #[.slice (some ⟨g, 0, none⟩) n c, .int .i64 a, .int .i64 m, .int .i64 b, cmp] w fun e w' => e = .returned (.tuple #[]) ∧ w.grownBy w' (some g) ∧ ∃ Y, RowI ok w' g c Y ∧ Via (rotI a m b) X Y := by
  have H := Lib.hid h; have HN := Lib.hid hn
  have e1 : IntKind.i64.wrap ((m : Int) - (a : Int)) = ((m - a : Nat) : Int) := by rw [IntWalk.i64_in _ (by omega)]; omega
  have e2 : IntKind.i64.wrap ((b : Int) - (m : Int)) = ((b - m : Nat) : Int) := by rw [IntWalk.i64_in _ (by omega)]; omega
  obtain ⟨p0, hp0⟩ : ∃ p, m - a = p := ⟨_, rfl⟩
  obtain ⟨q0, hq0⟩ : ∃ p, b - m = p := ⟨_, rfl⟩
  rw [hp0] at e1
  rw [hq0] at e2
  have HP := Lib.hid hp0; have HQ := Lib.hid hq0
  have HS := Lib.hid fun (a b k : Nat) (Z : List StepD) (hl : Z.length = n) (ha : a + k ≤ n) (hbk : b + k ≤ n) (hd : a + k ≤ b ∨ b + k ≤ a) (W : World) (hz : RowI ok W g c Z) => swap_any g c n a b k Z ok hl hb ha hbk hd W hz cmp
  clear h hn hp0 hq0
  go_enter Tryd.func66, Tryd.ntmps66
  go_wp2_with fail
  go_loopw [10, 11] (fun vi vj wr => ∃ (i j : Nat) (Z : List StepD), 0 < i ∧ 0 < j ∧ Hid (i ≤ m - a ∧ j ≤ b - m) ∧ vi = .int .i64 i ∧ vj = .int .i64 j ∧ Hid (RowI ok wr g c Z) ∧ Hid (w.grownBy wr (some g)) ∧ Hid (Z.length = n ∧ ∀ Y, Via (rotI (m - i) m (m + j)) Z Y → Via (rotI a m b) X Y)) (fun vi vj _ => (intOf vi).toNat + (intOf vj).toNat)
  case atStart =>
    have f1 := HP.out; have f2 := HQ.out
    refine ⟨p0, q0, X, by omega, by omega, Lib.hid ⟨by omega, by omega⟩, rfl, rfl, H, Lib.hid (grown_refl _ _), Lib.hid ⟨HN.out, fun Y hY => ?_⟩⟩
    rw [show m - p0 = a from by omega, show m + q0 = b from by omega] at hY
    exact hY
  case round =>
    obtain ⟨i, j, Z, hi0, hj0, HB, rfl, rfl, HZ, HW, HV⟩ := hrel
    have hB := HB.out
    have a1 : IntKind.i64.wrap ((m : Int) - (i : Int)) = ((m - i : Nat) : Int) := by rw [IntWalk.i64_in _ (by omega)]; omega
    by_cases hij : i = j
    · subst hij
      have ht : ((i : Int) != (i : Int)) = false := by simp
      obtain ⟨mi, hmi⟩ : ∃ q, m - i = q := ⟨_, rfl⟩
      rw [hmi] at a1
      have HC := Lib.hid (HS.out mi m i Z HV.out.1 (by omega) (by omega) (by omega))
      have HMI := Lib.hid hmi
      clear hmi hB
      go_wp2_with fail
      refine (HC.out _ HZ.out).mono ?_
      rintro e w1 ⟨rfl, g1, Y, hY, vY⟩
      go_wp2
      go_end0
      refine ⟨rfl, grown_trans HW.out g1, Y, hY, HV.out.2 Y ?_⟩
      rw [HMI.out]
      exact vY.congr fun q hq => by rw [← HMI.out]; exact rot_last (by have := HB.out; omega)
    · have ht : ((i : Int) != (j : Int)) = true := by rw [bne_iff_ne]; omega
      by_cases hlt : j < i
      · have hgt : (j : Int) < (i : Int) := by omega
        have a3 : IntKind.i64.wrap ((i : Int) - (j : Int)) = ((i - j : Nat) : Int) := by rw [IntWalk.i64_in _ (by omega)]; omega
        obtain ⟨ij, hijq⟩ : ∃ q, i - j = q := ⟨_, rfl⟩
        rw [hijq] at a3
        have HIJ := Lib.hid hijq
        clear hijq
        obtain ⟨mi, hmi⟩ : ∃ q, m - i = q := ⟨_, rfl⟩
        rw [hmi] at a1
        have HC := Lib.hid (HS.out mi m j Z HV.out.1 (by omega) (by omega) (by omega))
        have HMI := Lib.hid hmi
        clear hmi hB
        go_wp2_with fail
        refine (HC.out _ HZ.out).mono ?_
        rintro e w1 ⟨rfl, g1, Y, hY, vY⟩
        have HY := Lib.hid hY; have VY := Lib.hid vY; have G1 := Lib.hid (grown_trans HW.out g1)
        clear hY vY g1
        go_wp2
        go_roundw
        case rel =>
          have hB := HB.out; have hmi := HMI.out; have hZn := HV.out.1
          have hijq := HIJ.out; clear HIJ
          subst hijq
          refine ⟨i - j, j, Y, by omega, by omega, Lib.hid ⟨by omega, by omega⟩, rfl, rfl, HY, G1, Lib.hid ⟨by rw [VY.out.1]; exact hZn, fun U hU => HV.out.2 U ((VY.out.trans hU fun q hq => rot_lt (by omega) (by omega) (show m + j ≤ Z.length by omega) hq).congr fun q hq => ?_)⟩⟩
          rw [← hmi]
          exact rot_low (a := 0) hlt (by omega)
        case measure => have hijq := HIJ.out; simp [intOf]; omega
      · have hgt : ¬ (j : Int) < (i : Int) := by omega
        obtain ⟨mi, hmi⟩ : ∃ q, m - i = q := ⟨_, rfl⟩
        rw [hmi] at a1
        have a4 : IntKind.i64.wrap ((m : Int) + (j : Int)) = ((m + j : Nat) : Int) := by rw [IntWalk.i64_in _ (by omega)]; omega
        have a2 : IntKind.i64.wrap (((m + j : Nat) : Int) - (i : Int)) = ((m + j - i : Nat) : Int) := by rw [IntWalk.i64_in _ (by omega)]; omega
        have a3 : IntKind.i64.wrap ((j : Int) - (i : Int)) = ((j - i : Nat) : Int) := by rw [IntWalk.i64_in _ (by omega)]; omega
        obtain ⟨ji, hjiq⟩ : ∃ q, j - i = q := ⟨_, rfl⟩
        rw [hjiq] at a3
        have HJI := Lib.hid hjiq
        clear hjiq
        obtain ⟨mj, hmj⟩ : ∃ q, m + j - i = q := ⟨_, rfl⟩
        rw [hmj] at a2
        obtain ⟨t, ht4⟩ : ∃ q, m + j = q := ⟨_, rfl⟩
        rw [ht4] at a2 a4
        clear ht4
        have HC := Lib.hid (HS.out mi mj i Z HV.out.1 (by omega) (by omega) (by omega))
        have HMI := Lib.hid hmi; have HMJ := Lib.hid hmj
        clear hmi hmj hB
        go_wp2_with fail
        refine (HC.out _ HZ.out).mono ?_
        rintro e w1 ⟨rfl, g1, Y, hY, vY⟩
        have HY := Lib.hid hY; have VY := Lib.hid vY; have G1 := Lib.hid (grown_trans HW.out g1)
        clear hY vY g1
        go_wp2
        go_roundw
        case rel =>
          have hB := HB.out; have hmi := HMI.out; have hmj := HMJ.out; have hZn := HV.out.1
          have hjiq := HJI.out; clear HJI
          subst hjiq
          refine ⟨i, j - i, Y, by omega, by omega, Lib.hid ⟨by omega, by omega⟩, rfl, rfl, HY, G1, Lib.hid ⟨by rw [VY.out.1]; exact hZn, fun U hU => HV.out.2 U ((VY.out.trans hU fun q hq => rot_lt (by omega) (by omega) (show m + (j - i) ≤ Z.length by omega) hq).congr fun q hq => ?_)⟩⟩
          rw [← hmi, ← hmj]
          exact rot_high (by omega) (by omega)
        case measure => have hjiq := HJI.out; simp [intOf]; omega
end Go.Proofs.YtaiolhanbjndcaaDoor.Sri
namespace Go.Proofs.YtaiolhanbjndcaaDoor.Sri
open Go.RowKit Go.Shelf Go.Proofs.YtaiolhanbjndcaaDoor.Srt Go.Proofs.YtaiolhanbjndcaaDoor.Ft
set_option linter.unusedVariables false
set_option maxRecDepth 100000
set_option maxHeartbeats 3200000 in
theorem insF_any (g c n a b : Nat) (X : List StepD) (hn : X.length = n) (hb : n ≤ 1000) (hab : a ≤ b) (hbn : b ≤ n) (ok : StepD → Prop) (ub : Nat) (w0 : World) (hcc : CmpC ok ub w0 g) (w : World) (h : RowI ok w g c X) (hgw : w0.grownBy w (some g)) :
    Calls Tryd.prog 53 #[.slice (some ⟨g, 0, none⟩) n c, .int .i64 a, .int .i64 b, .func (.func 23) #[] #[.pointer (some ⟨ub, 0, none⟩)]] w fun e w' => e = .returned (.tuple #[]) ∧ w.grownBy w' (some g) ∧ ∃ Y, RowI ok w' g c Y ∧ Mix a b X Y ∧ SrtOn Y a b := by
  have HCC := Lib.hid hcc; have HGW := Lib.hid hgw
  have H := Lib.hid h; have HN := Lib.hid hn
  have e1 : IntKind.i64.wrap ((a : Int) + 1) = ((a + 1 : Nat) : Int) := by rw [IntWalk.i64_in _ (by omega)]; omega
  clear hcc hgw h hn
  go_enter Tryd.func53, Tryd.ntmps53
  go_wp2_with fail
  go_loopw [8] (fun vi wr => ∃ (i : Nat) (Z : List StepD), a < i ∧ i ≤ b + 1 ∧ vi = .int .i64 i ∧ Hid (RowI ok wr g c Z) ∧ Hid (w.grownBy wr (some g)) ∧ Hid (Z.length = n ∧ Mix a b X Z ∧ SrtOn Z a i)) (fun vi _ => b + 1 - (intOf vi).toNat)
  case atStart => exact ⟨a + 1, X, by omega, by omega, rfl, H, Lib.hid (grown_refl _ _), Lib.hid ⟨HN.out, Mix.refl _ _ _, fun p q h1 h2 h3 => by omega⟩⟩
  case round =>
    obtain ⟨i, Z, hi1, hi2, rfl, HZ, HW, HV⟩ := hrel
    by_cases hlt : i < b
    · go_wp2
      go_loopw [9] (fun vj wr => ∃ (j : Nat) (Z : List StepD), a ≤ j ∧ j ≤ i ∧ vj = .int .i64 j ∧ Hid (RowI ok wr g c Z) ∧ Hid (w.grownBy wr (some g)) ∧ Hid (Z.length = n ∧ Mix a b X Z ∧ SrtBut Z a i j)) (fun vj _ => (intOf vj).toNat)
      case atStart => exact ⟨i, Z, by omega, by omega, rfl, HZ, HW, Lib.hid ⟨HV.out.1, HV.out.2.1, HV.out.2.2.but⟩⟩
      case round =>
        clear HZ HW HV Z
        obtain ⟨j, Z, hj1, hj2, rfl, HZ, HW, HV⟩ := hrel
        by_cases hja : a < j
        · obtain ⟨q, hq⟩ : ∃ q, j = q + 1 := ⟨j - 1, by omega⟩
          have hZl := HV.out.1
          obtain ⟨s, hs, c0, os⟩ := HZ.out.lt (k := j) (by rw [hZl]; omega)
          obtain ⟨u, hu, d0, ou⟩ := HZ.out.lt (k := q) (by rw [hZl]; omega)
          obtain ⟨v, hv⟩ : ∃ v, cmpV s.at_ u.at_ = v := ⟨_, rfl⟩
          have HC := Lib.hid fun (W : World) (hW : w.grownBy W (some g)) => HCC.out W s u (grown_trans HGW.out hW) os ou
          rw [hv] at HC
          have hqn : q < n := by omega
          have hjn : j < n := by omega
          have hwq : IntKind.i64.wrap ((j : Int) - 1) = (q : Int) := by rw [IntWalk.i64_in _ (by omega)]; omega
          have HU := Lib.hid (set_via hs hu); have OS := Lib.hid os; have OU := Lib.hid ou
          have HL1 : Hid (j < Z.length) := by show _ < _; rw [hZl]; omega
          have HL2 : Hid (∀ v, q < (Z.set j v).length) := fun v => by rw [List.length_set, hZl]; omega
          have hkj := atK_of hs; have hkq := atK_of hu
          have HQ := Lib.hid hq
          by_cases hlv : v < 0
          · have HB2 : Hid (∀ Y, Via (swI j q 1) Z Y → Y.length = n ∧ Mix a b X Y ∧ SrtBut Y a i q) := fun Y hY => by
              have hk : atK Z (q + 1) < atK Z q := by rw [← hq, hkj, hkq]; exact cmpV_neg.1 (by rw [hv]; exact hlv)
              rw [hq] at hY
              have hbut := HV.out.2.2
              rw [hq] at hbut
              exact ⟨by rw [hY.1]; exact hZl, HV.out.2.1.trans (Mix.step (by omega) (by omega) (by omega) hY hk), hbut.step (by omega) (by omega) (by omega) hY hk⟩
            clear hs hu hv hkj hkq hq hZl
            go_wp2_with fail
            have s0 : wr.drew.cell? ⟨g, j, none⟩ = some (.int .i64 s.fr) ∧ wr.drew.cell? ⟨g, q, none⟩ = some (.int .i64 u.fr) ∧ w.grownBy wr.drew (some g) := ⟨kp (dr wr) c0, kp (dr wr) d0, grown_trans HW.out (Below.grow (dr wr) (some g))⟩
            have HX0 := Lib.hid (HZ.out.below (dr wr)); have HY0 := Lib.hid (grown_trans HW.out (Below.grow (dr wr) (some g)))
            go_region_held3 (fun (W : World) => W.cell? ⟨g, j, none⟩ = some (.int .i64 s.fr) ∧ W.cell? ⟨g, q, none⟩ = some (.int .i64 u.fr) ∧ w.grownBy W (some g)) (first | exact s1 | exact s0) (first
              | (go_at_call 23; refine (HC.out _ s0.2.2).mono ?_; rintro e x1 ⟨rfl, hb1⟩; have s1 : x1.cell? ⟨g, j, none⟩ = some (.int .i64 s.fr) ∧ x1.cell? ⟨g, q, none⟩ = some (.int .i64 u.fr) ∧ w.grownBy x1 (some g) := ⟨kp hb1 s0.1, kp hb1 s0.2.1, grown_trans s0.2.2 (Below.grow hb1 (some g))⟩; have HX1 : Hid (RowI ok x1 g c Z) := Lib.hid (HX0.out.below hb1); have HY1 : Hid (w.grownBy x1 (some g)) := Lib.hid (grown_trans HY0.out (Below.grow hb1 (some g))); clear hb1))
            go_wp2_with fail
            obtain ⟨c0, d0, s1g⟩ := s1
            have s0 : x1.drew.cell? ⟨g, j, none⟩ = some (.int .i64 s.fr) ∧ x1.drew.cell? ⟨g, q, none⟩ = some (.int .i64 u.fr) := ⟨c0, d0⟩
            clear c0 d0
            have HZD := Lib.hid (HX1.out.below (dr x1))
            have HWD := Lib.hid (grown_trans HY1.out (Below.grow (dr x1) (some g)))
            refine Ft.wp_region_R (fun _ => True) 18 (by kernel_rfl) ?_
            generalize x1.drew = W0 at s0 HZD HWD ⊢
            refine Ft.wpAnyR_leadI (by kernel_rfl) ?hQ trivial [0, 1, 2, 3, 4, 5, 6, 7, 8, 10, 11, 12] 6 _ _ (by kernel_rfl) ?_
            case hQ => intro c a d v w h; cases d <;> exact h
            iterate 12 (refine Ft.wpLeadI_read (v := ?_) _ rfl rfl (by rfl) ?_ ?_; rotate_left; (intro W hW; (try dsimp only at hW); go_simp; (try simp only [hwq]); (try go_simp); (try with_reducible rfl)); try simp only [Act.put, List.setIfInBounds_toArray, List.set_cons_succ, List.set_cons_zero])
            simp only [Ft.wpLeadI]
            refine wpAnyR_weak (S := fun W => W = W0) (n := 14) _ _ _ _ ?_
            refine Ft.wpAnyR_leadI (S := fun W => W = W0) (by kernel_rfl) ?hQ2 (w := W0) rfl [9, 13] 4 _ _ (by kernel_rfl) ?_
            case hQ2 => intro c a d v w h; cases d <;> exact h
            iterate 2 (refine Ft.wpLeadI_read (v := ?_) _ rfl rfl (by rfl) ?_ ?_; rotate_left; (intro W hW; (try dsimp only at hW); rw [hW]; go_simp; (try simp only [hwq]); (try go_simp); (try with_reducible rfl)); try simp only [Act.put, List.setIfInBounds_toArray, List.set_cons_succ, List.set_cons_zero])
            simp only [Ft.wpLeadI]
            refine Ft.wpAnyR_tail (n := 14) rfl (by kernel_rfl) ?_
            go_wp2_with (first
              | (refine wpList_puti rfl _ _ rfl g c _ q s q (by simp [Act.eval]) rfl (by simp [Act.eval]) H1.out OS.out (HL2.out u) ?_; intro W2 h2 g2; have H2 := Lib.hid h2; have G2 := Lib.hid (grown_trans G1.out g2); clear h2 g2)
              | (refine wpList_puti rfl _ _ rfl g c Z j u j (by simp [Act.eval]) rfl (by simp [Act.eval]) HZD.out OU.out HL1.out ?_; intro W1 h1 g1; have H1 := Lib.hid h1; have G1 := Lib.hid (grown_trans HWD.out g1); clear h1 g1))
            go_roundw
            case rel => have hq := HQ.out; exact ⟨q, _, by omega, by omega, by go_num, H2, G2, Lib.hid (HB2.out _ HU.out)⟩
            case measure => have hq := HQ.out; simp [intOf]; omega
          · have HB2 : Hid (SrtOn Z a (i + 1)) := by
              refine HV.out.2.2.stop (Or.inr ⟨hja, ?_⟩)
              rw [show j - 1 = q from by omega, hkj, hkq]
              have hns : ¬ s.at_ < u.at_ := fun h => hlv (by rw [← hv]; exact cmpV_neg.2 h)
              omega
            clear hs hu hv hkj hkq hq hZl
            go_wp2_with fail
            have s0 : wr.drew.cell? ⟨g, j, none⟩ = some (.int .i64 s.fr) ∧ wr.drew.cell? ⟨g, q, none⟩ = some (.int .i64 u.fr) ∧ w.grownBy wr.drew (some g) := ⟨kp (dr wr) c0, kp (dr wr) d0, grown_trans HW.out (Below.grow (dr wr) (some g))⟩
            have HX0 := Lib.hid (HZ.out.below (dr wr)); have HY0 := Lib.hid (grown_trans HW.out (Below.grow (dr wr) (some g)))
            go_region_held3 (fun (W : World) => W.cell? ⟨g, j, none⟩ = some (.int .i64 s.fr) ∧ W.cell? ⟨g, q, none⟩ = some (.int .i64 u.fr) ∧ w.grownBy W (some g)) (first | exact s1 | exact s0) (first
              | (go_at_call 23; refine (HC.out _ s0.2.2).mono ?_; rintro e x1 ⟨rfl, hb1⟩; have s1 : x1.cell? ⟨g, j, none⟩ = some (.int .i64 s.fr) ∧ x1.cell? ⟨g, q, none⟩ = some (.int .i64 u.fr) ∧ w.grownBy x1 (some g) := ⟨kp hb1 s0.1, kp hb1 s0.2.1, grown_trans s0.2.2 (Below.grow hb1 (some g))⟩; have HX1 : Hid (RowI ok x1 g c Z) := Lib.hid (HX0.out.below hb1); have HY1 : Hid (w.grownBy x1 (some g)) := Lib.hid (grown_trans HY0.out (Below.grow hb1 (some g))); clear hb1))
            go_wp2
            go_roundw
            case rel => exact ⟨i + 1, Z, by omega, by omega, by go_num, Lib.hid HX1.out, Lib.hid HY1.out, Lib.hid ⟨HV.out.1, HV.out.2.1, HB2.out⟩⟩
            case measure => simp [intOf]; omega
        · have hje : j = a := by omega
          have HB2 : Hid (SrtOn Z a (i + 1)) := HV.out.2.2.stop (Or.inl hje)
          have hd0 : decide ((j : Int) > (a : Int)) = false := decide_eq_false (by omega)
          have hd1 : ¬ (a : Int) < (j : Int) := by omega
          clear hje
          go_wp2_with fail
          have HZD := Lib.hid (HZ.out.below (dr wr))
          have HWD := Lib.hid (grown_trans HW.out (Below.grow (dr wr) (some g)))
          refine Ft.wp_region_R (fun _ => True) 17 (by kernel_rfl) ?_
          refine Ft.wpAnyR_leadI (by kernel_rfl) ?hQ ?hS0 [0, 1, 2, 3, 4, 5, 6, 7, 8, 9, 10, 11, 12, 13, 14, 15, 16] 0 _ _ (by kernel_rfl) ?_
          case hQ => intro c a d v w h; cases d <;> exact h
          case hS0 => exact trivial
          iterate 4 (refine Ft.wpLeadI_read (v := ?_) _ rfl rfl (by rfl) ?_ ?_; rotate_left; (intro W hW; (try dsimp only at hW); go_simp; (try with_reducible rfl)); try simp only [Act.put, List.setIfInBounds_toArray, List.set_cons_succ, List.set_cons_zero])
          iterate 12 (refine Ft.wpLeadI_skip _ rfl rfl (by kernel_rfl) ?_; try simp only [Act.put, List.setIfInBounds_toArray, List.set_cons_succ, List.set_cons_zero])
          iterate 1 (refine Ft.wpLeadI_read (v := ?_) _ rfl rfl (by rfl) ?_ ?_; rotate_left; (intro W hW; (try dsimp only at hW); go_simp; (try with_reducible rfl)); try simp only [Act.put, List.setIfInBounds_toArray, List.set_cons_succ, List.set_cons_zero])
          simp only [Ft.wpLeadI]
          refine ⟨by kernel_rfl, ?_⟩
          go_wp2
          go_roundw
          case rel => exact ⟨i + 1, Z, by omega, by omega, by go_num, HZD, HWD, Lib.hid ⟨HV.out.1, HV.out.2.1, HB2.out⟩⟩
          case measure => simp [intOf]; omega
    · have HE : Hid (SrtOn Z a b) := fun p q h1 h2 h3 => HV.out.2.2 p q h1 h2 (by omega)
      go_wp2
      go_end0
      exact ⟨rfl, HW.out, Z, HZ.out, HV.out.2.1, HE.out⟩
end Go.Proofs.YtaiolhanbjndcaaDoor.Sri

