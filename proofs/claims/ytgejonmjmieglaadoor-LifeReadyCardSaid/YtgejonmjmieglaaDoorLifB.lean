/- Layer 13: mayFail, areAllowed, standing, with. -/
import Derived.Test.YtgejonmjmieglaaDoorLifA
import Derived.Deep.RegionHeld3
import Derived.Laws.CopyOwn
namespace Go.Proofs.YtgejonmjmieglaaDoor.Lf
open Go.RowKit
open Dag (Ints IRows Own1 OwnI Sl ints num info_int)
set_option linter.unusedVariables false
set_option maxRecDepth 100000

set_option maxHeartbeats 800000 in
theorem mayFail_any (t : TaskD) (A : Option Addr) (c : Nat) (s k : Int) (w : World) (hr : 0 ≤ t.retry ∧ t.retry ≤ 20) (r : Bool) (hm : mayB t s k = r) :
    Calls Tryd.prog 72 #[.agg #[.string (sb t.name), .int .i64 t.nodes, .int .i64 t.wall, .int .i64 t.retry, .bool t.done, .slice A t.after.length c], .int .i64 s, .int .i64 k] w fun e w' => e = .returned (.bool r) ∧ Below w.heap.size w w' := by
  subst hm
  obtain ⟨nm, nodes, wall, retry, done, aft⟩ := t
  replace hr : 0 ≤ retry ∧ retry ≤ 20 := hr
  cases done
  · by_cases h3 : s = 3
    · subst h3
      go_enter Tryd.func72, Tryd.ntmps72
      go_wp2
      go_ret
      exact ⟨rfl, al _ _⟩
    · have hb : (s == 3) = false := by rw [beq_eq_false_iff_ne]; exact h3
      have HM := Lib.hid (show mayB ⟨nm, nodes, wall, retry, false, aft⟩ s k = (decide (0 ≤ k) && decide (k ≤ retry)) by unfold mayB; simp [h3])
      clear h3
      by_cases h0 : 0 ≤ k
      · have h0' := decide_eq_true h0
        rw [HM.out, h0', Bool.true_and]
        go_enter Tryd.func72, Tryd.ntmps72
        go_wp2
        go_ret
        exact ⟨rfl, al _ _⟩
      · have h0' := decide_eq_false h0
        rw [HM.out, h0', Bool.false_and]
        go_enter Tryd.func72, Tryd.ntmps72
        go_wp2
        go_ret
        exact ⟨rfl, al _ _⟩
  · go_enter Tryd.func72, Tryd.ntmps72
    go_wp2
    go_ret
    exact ⟨rfl, al _ _⟩


theorem stand_snoc (S : List Int) (l : List Int) (k : Nat) : (List.range (k + 1)).filter (fun v => decide (atI S v ∈ l)) = (List.range k).filter (fun v => decide (atI S v ∈ l)) ++ (if atI S k ∈ l then [k] else []) := by
  rw [List.range_succ, List.filter_append]
  congr 1
  by_cases h : atI S k ∈ l <;> simp [h]
set_option maxHeartbeats 1600000 in
theorem standing_any (S l : List Int) (n k : Nat) (hn : S.length = n) (hk : l.length = k) (hn2 : n ≤ 50000000) (w : World) (SA FA B : Option Addr) (sc m fc d : Nat) (hS : Ints w SA sc S) (hB : Ints w B d l) :
    Calls Tryd.prog 41 #[.agg #[.slice SA n sc, .slice FA m fc], .slice B k d] w (Dag.RetC w (num (standL S l))) := by
  have CC := Lib.hid (fun W (hW : Below w.heap.size w W) x r (hr : decide (x ∈ l) = r) => contains_any l k hk x W B d (hB.below hW) r hr)
  have HS := Lib.hid hS
  have HN := Lib.hid hn
  clear hS hB hn hk
  go_enter Tryd.func41, Tryd.ntmps41
  go_wp2_with fail
  go_loopw [5, 11] (fun ts i wr => ∃ (j : Nat) (vs : List Value) (A : Option Addr) (c : Nat), j ≤ n ∧ i = .int .i64 j ∧ ts = .slice A vs.length c ∧ Hid (vs = ints (num ((List.range j).filter fun v => decide (atI S v ∈ l)))) ∧ Hid (Own1 wr w.heap.size 3 (.slice A vs.length c) vs) ∧ Hid (Below w.heap.size w wr)) (fun _ i _ => n - (intOf i).toNat)
  case atStart => exact ⟨0, [], none, 0, Nat.zero_le _, rfl, rfl, Lib.hid rfl, Lib.hid (Own1.nil _ _ _), Lib.hid (al _ _)⟩
  case round =>
    obtain ⟨j, vs, A, c, hj, rfl, rfl, HV, HO, HW⟩ := hrel
    by_cases hlt : j < n
    · obtain ⟨b, off, s, rfl, hx, hc⟩ := (HS.out.below HW.out).at_ (k := j) (by rw [HN.out]; exact hlt)
      have hat := atI_some hx
      have hvl : vs.length ≤ j := by
        rw [HV.out, Dag.ints_len, Dag.num_len]
        exact Nat.le_trans (List.length_filter_le _ _) (by simp)
      clear hx
      by_cases hin : s ∈ l
      · have HV2 := Lib.hid (show vs ++ [.int .i64 (j : Int)] = ints (num ((List.range (j + 1)).filter fun v => decide (atI S v ∈ l))) by
          rw [stand_snoc, if_pos (by rw [hat]; exact hin), HV.out, Dag.num_app, Dag.ints_app]; rfl)
        have C1 := Lib.hid (CC.out _ HW.out s true (decide_eq_true hin))
        clear hin hat
        go_wp2_with fail
        refine C1.out.mono ?_
        rintro e w1 ⟨rfl, hb1⟩
        have HW1 := Lib.hid (blw HW.out hb1)
        have HO1 := Lib.hid (HO.out.below hb1)
        have hsz := HW1.out.size
        clear hb1
        go_wp2_with (at_builtin; refine Dag.wpList_appg rfl _ _ 25 3 (.int .i64 0) 8 Tryd.underlying25 info_int rfl (by decide) rfl w.heap.size (.slice A vs.length c) vs rfl (HO1.out.below (al _ _)) (some ⟨w1.heap.size, 0, none⟩) 1 1 [.int .i64 (j : Int)] rfl rfl (Sl.one rfl) (by simp [Value.oneCell']) (by simp; omega) (by simp; omega) ?_; intro l9 A9 c9 w9 el ho9 hg9 hb9 hbl9; have HO9 := Lib.hid ho9; have HBL := Lib.hid hbl9; have EL := Lib.hid el; clear ho9 hg9 hb9 hbl9 el)
        go_roundw
        case rel => exact ⟨j + 1, l9, A9, c9, by omega, by go_num, rfl, Lib.hid (EL.out.trans HV2.out), HO9, Lib.hid ((HW1.out.trans ((al w1 _).mono HW1.out.size)).trans HBL.out)⟩
        case measure => simp [intOf]; omega
      · have HV2 := Lib.hid (show vs = ints (num ((List.range (j + 1)).filter fun v => decide (atI S v ∈ l))) by
          rw [stand_snoc, if_neg (by rw [hat]; exact hin), List.append_nil]; exact HV.out)
        have C1 := Lib.hid (CC.out _ HW.out s false (decide_eq_false hin))
        clear hin hat
        go_wp2_with fail
        refine C1.out.mono ?_
        rintro e w1 ⟨rfl, hb1⟩
        have HW1 := Lib.hid (blw HW.out hb1)
        have HO1 := Lib.hid (HO.out.below hb1)
        clear hb1
        go_wp2
        go_roundw
        case rel => exact ⟨j + 1, vs, A, c, by omega, by go_num, rfl, HV2, HO1, HW1⟩
        case measure => simp [intOf]; omega
    · obtain rfl : j = n := by omega
      have HX := Lib.hid (show vs = ints (num (standL S l)) by rw [HV.out]; unfold standL; rw [HN.out])
      go_wp2
      go_ret
      have e1 : (num (standL S l)).length = vs.length := by rw [HX.out, Dag.ints_len]
      refine ⟨A, c, by rw [e1]; rfl, ?_, HW.out⟩
      rw [e1]
      have := HO.out
      unfold OwnI
      rw [← HX.out]
      exact this

/-! what is written in one block alone -/
structure Onl (g : Nat) (w w' : World) : Prop where
  os : w'.os = w.os
  tape : w'.tape = w.tape
  output : w'.output = w.output
  size : w'.heap.size = w.heap.size
  block : ∀ k, k ≠ g → w'.heap[k]? = w.heap[k]?
theorem Onl.refl (g : Nat) (w : World) : Onl g w w := ⟨rfl, rfl, rfl, rfl, fun _ _ => rfl⟩
theorem Onl.trans {g : Nat} {w w' w'' : World} (h : Onl g w w') (k : Onl g w' w'') : Onl g w w'' := ⟨k.os.trans h.os, k.tape.trans h.tape, k.output.trans h.output, k.size.trans h.size, fun j hj => (k.block j hj).trans (h.block j hj)⟩
theorem Onl.below {g base : Nat} {w0 w w' : World} (h : Onl g w w') (hb : Below base w0 w) (hg : base ≤ g) : Below base w0 w' :=
  ⟨h.os.trans hb.os, h.tape.trans hb.tape, h.output.trans hb.output, by rw [h.size]; exact hb.size, fun k hk => (h.block k (by omega)).trans (hb.block k hk)⟩
theorem Onl.set (g i : Nat) (w : World) (v : Value) : Onl g w (w.setCell ⟨g, i, none⟩ v) := ⟨rfl, rfl, rfl, by simp [World.setCell], fun k hk => Dag.blk_other hk⟩
def rowO (S : List Int) : Obj := .cells (ints S).toArray 3 (0, 0)
theorem rowO_cell {w : World} {g k : Nat} {S : List Int} {x : Int} (h : w.heap[g]? = some (rowO S)) (hk : S[k]? = some x) : w.cell? ⟨g, k, none⟩ = some (.int .i64 x) := by
  rw [Dag.blk_cell h, List.getElem?_toArray]; exact Dag.ints_get hk
theorem rowO_ints {w : World} {g n : Nat} {S : List Int} (h : w.heap[g]? = some (rowO S)) (hn : S.length = n) (hl : n ≤ 1000000) : Ints w (some ⟨g, 0, none⟩) n S := by
  refine ⟨fun k u hk => ⟨g, 0, rfl, ?_⟩, by rw [Dag.ints_len, hn]; exact Nat.le_refl _, by simp only [maxLen]; omega, fun e => by cases e⟩
  rw [Nat.zero_add, Dag.blk_cell h, List.getElem?_toArray]; exact hk
theorem rowO_set {w : World} {g k : Nat} {S : List Int} {x : Int} (h : w.heap[g]? = some (rowO S)) : (w.setCell ⟨g, k, none⟩ (.int .i64 x)).heap[g]? = some (rowO (S.set k x)) := by
  rw [Dag.blk_set h]
  unfold rowO ints
  rw [List.setIfInBounds_toArray, List.map_set]
theorem nest3 {w : World} {z : Nat} (o1 o2 o3 : Obj) (hz : w.heap.size = z) : (((w.alloc o1).alloc o2).alloc o3).drew.heap[z]? = some o1 ∧ (((w.alloc o1).alloc o2).alloc o3).drew.heap[z + 1]? = some o2 ∧ (((w.alloc o1).alloc o2).alloc o3).drew.heap[z + 1 + 1]? = some o3 ∧ Below w.heap.size w (((w.alloc o1).alloc o2).alloc o3).drew := by
  subst hz
  have h3 := heap_alloc_new ((w.alloc o1).alloc o2) o3
  have h2 := heap_alloc_new (w.alloc o1) o2
  have h1 := heap_alloc_new w o1
  simp only [World.size_alloc] at h3 h2
  refine ⟨(Below.heap_alloc _ _ _ (by simp only [World.size_alloc]; omega)).trans ((Below.heap_alloc _ _ _ (by simp only [World.size_alloc]; omega)).trans h1), (Below.heap_alloc _ _ _ (by simp only [World.size_alloc]; omega)).trans h2, h3, ?_⟩
  have hb := ((al w o1).alloc (by simp) o2).alloc (by simp only [World.size_alloc]; omega) o3
  exact ⟨hb.os, hb.tape, hb.output, hb.size, hb.block⟩

theorem wpList_copy_ints {w : World} {ops : Array Oper} {rest : List Oper} {o : Oper} {a : Act} {Q : Exit → Act → World → Prop} (hgd : o.guard = none) (d s : Operand)
    (ho : o.op = .call { callee := .builtin .copy, args := #[d, s], argTypes := #[25, 25] }) (g n sc : Nat) (SA : Option Addr) (S : List Int) (hn : S.length = n)
    (hd : a.eval d = .slice (some ⟨g, 0, none⟩) n n) (hs : a.eval s = .slice SA n sc) (hS : Ints w SA sc S) (Z : List Int) (hZ : Z.length = n) (hg : w.heap[g]? = some (rowO Z))
    (h : ∀ w', Onl g w w' → w'.heap[g]? = some (rowO S) → wpList Tryd.prog ops Q rest (a.put o.dst (goInt n)) w') : wpList Tryd.prog ops Q (o :: rest) a w := by
  obtain ⟨i0, hi0, hz0, hz1, hz2⟩ := info_parts info_int
  have hsz : (Tryd.prog.info? 3).map (·.size) = some 1 := by rw [hi0]; simp [hz1]
  by_cases h0 : n = 0
  · subst h0
    obtain rfl : S = [] := List.eq_nil_of_length_eq_zero hn
    obtain rfl : Z = [] := List.eq_nil_of_length_eq_zero hZ
    refine Go.wpList_copy_nothing hgd d s _ _ ho 3 Tryd.underlying25 hsz _ _ _ _ _ _ hd hs rfl ?_
    exact h w (Onl.refl _ _) hg
  · obtain ⟨b, off, x, rfl, hx, _⟩ := hS.at_ (k := 0) (by omega)
    refine Go.wpList_copy_own hgd d s _ _ ho 3 Tryd.underlying25 hsz g 0 n n ⟨b, off, none⟩ n sc hd hs (ints Z).toArray 3 hg (ints S) (by rw [Dag.ints_len, hn]; simp) (fun j v hj => ?_) (by rw [Dag.ints_len]; simp [Dag.ints_len]; omega) (Dag.ints_one S) ?_
    · obtain ⟨b', off', e, hc⟩ := Sl.cells hS j v hj
      injection e with e; injection e with e1 e2; subst e1 e2
      have e : (⟨b, off, none⟩ : Addr).add j = ⟨b, off + j, none⟩ := by unfold Addr.add; split <;> simp_all
      rw [e]; exact hc
    · rw [Dag.ints_len, hn]
      refine h _ ⟨rfl, rfl, rfl, by simp [World.setRow], fun k hk => setRow_other w g k _ hk⟩ ?_
      rw [setRow_heap w g _ _ 3 _ hg]
      unfold rowO
      congr 3
      simp [Dag.ints_len, hZ]

/-- a life of the call's own -/
def RetW (w : World) (S F : List Int) (n m : Nat) (e : Ending) (w' : World) : Prop := ∃ gS gF, e = .returned (.agg #[.slice (some ⟨gS, 0, none⟩) n n, .slice (some ⟨gF, 0, none⟩) m m]) ∧ gS ≠ gF ∧ w.heap.size ≤ gS ∧ w.heap.size ≤ gF ∧ w'.heap[gS]? = some (rowO S) ∧ w'.heap[gF]? = some (rowO F) ∧ Below w.heap.size w w'

set_option maxHeartbeats 3200000 in
theorem with_any (S F : List Int) (n m : Nat) (hnS : S.length = n) (hmF : F.length = m) (s : Int) (l : List Nat) (k : Nat) (hkl : l.length = k) (hl : ∀ v ∈ l, v < n) (w : World) (SA FA : Option Addr) (sc fc : Nat) (hS : Ints w SA sc S) (hF : Ints w FA fc F) (B : Option Addr) (d : Nat) (hB : Ints w B d (num l)) (hn : n ≤ 1000000) (hm : m ≤ 1000000) :
    Calls Tryd.prog 46 #[.agg #[.slice SA n sc, .slice FA m fc], .int .i64 s, .slice B k d] w (RetW w (putL S l s) F n m) := by
  have hmk := fun (W : World) (x y : Int) (n : Nat) (hn : n ≤ 1000000) (hx : x = (n : Int)) (hy : y = (n : Int)) => Dag.run_mk W 25 3 _ 8 Tryd.underlying25 info_int rfl (by decide) n hn x y hx hy
  have hmk1 := fun (W : World) => hmk W _ _ n hn rfl rfl
  have hmk2 := fun (W : World) => hmk W _ _ m hm rfl rfl
  have hkm : k ≤ 9223372036854775807 := by have := ints_top hB; rw [Dag.num_len, hkl] at this; exact this
  have HS := Lib.hid hS; have HF := Lib.hid hF; have HB := Lib.hid hB; have HL := Lib.hid hl; have HNS := Lib.hid hnS; have HMF := Lib.hid hmF; have HKL := Lib.hid hkl
  clear hmk hS hF hB hl hnS hmF hkl
  go_enter Tryd.func46, Tryd.ntmps46
  go_wp2_with fail
  rename_i K hK
  have c0 : ((w.alloc (Obj.cells #[Value.slice SA n sc, Value.slice FA m fc] 27)).alloc (Obj.cells #[Value.slice none 0 0, Value.slice none 0 0] 27)).cell? ⟨w.heap.size, 0, none⟩ = some (.slice SA n sc) := by simp
  have c1 : ((w.alloc (Obj.cells #[Value.slice SA n sc, Value.slice FA m fc] 27)).alloc (Obj.cells #[Value.slice none 0 0, Value.slice none 0 0] 27)).cell? ⟨w.heap.size, 1, none⟩ = some (.slice FA m fc) := by simp
  have hz : ((w.alloc (Obj.cells #[Value.slice SA n sc, Value.slice FA m fc] 27)).alloc (Obj.cells #[Value.slice none 0 0, Value.slice none 0 0] 27)).heap.size = w.heap.size + 2 := by simp
  have hr : ((w.alloc (Obj.cells #[Value.slice SA n sc, Value.slice FA m fc] 27)).alloc (Obj.cells #[Value.slice none 0 0, Value.slice none 0 0] 27)).heap[w.heap.size + 1]? = some (Obj.cells #[Value.slice none 0 0, Value.slice none 0 0] 27 (0, 0)) := by
    have := heap_alloc_new (w.alloc (Obj.cells #[Value.slice SA n sc, Value.slice FA m fc] 27)) (Obj.cells #[Value.slice none 0 0, Value.slice none 0 0] 27)
    simpa using this
  have hw1 := blw (al w (Obj.cells #[Value.slice SA n sc, Value.slice FA m fc] 27)) (al _ (Obj.cells #[Value.slice none 0 0, Value.slice none 0 0] 27))
  generalize (w.alloc (Obj.cells #[Value.slice SA n sc, Value.slice FA m fc] 27)).alloc (Obj.cells #[Value.slice none 0 0, Value.slice none 0 0] 27) = w1 at c0 c1 hz hr hw1 ⊢
  have REST : ∀ (W : World) (gS gF gy : Nat), W.heap[gS]? = some (.cells (Array.replicate n (.int .i64 0)) 3 (0, 0)) → W.heap[gF]? = some (.cells (Array.replicate m (.int .i64 0)) 3 (0, 0)) → W.heap[gy]? = some (.cells #[.slice (some ⟨gS, 0, none⟩) n n, .slice (some ⟨gF, 0, none⟩) m m] 27 (0, 0)) → Below w1.heap.size w1 W → (gS ≠ gF ∧ gS ≠ gy ∧ gF ≠ gy ∧ w.heap.size + 2 ≤ gS ∧ w.heap.size + 2 ≤ gF ∧ w.heap.size + 2 ≤ gy) →
      K { tmps := #[Value.agg #[Value.slice SA n sc, Value.slice FA m fc], Value.int IntKind.i64 s, Value.slice B k d,
          Value.pointer (some { block := w.heap.size, off := 0 }), undef, undef,
          Value.pointer (some { block := w.heap.size + 1, off := 0 }),
          Value.pointer (some { block := gy, off := 0 }), undef, undef,
          Value.pointer (some { block := w.heap.size, off := 0 }), Value.slice SA n sc, Value.int IntKind.i64 n,
          Value.slice (some { block := gS, off := 0 }) n n,
          Value.pointer (some { block := w.heap.size, off := 1 }), Value.slice FA m fc, Value.int IntKind.i64 m,
          Value.slice (some { block := gF, off := 0 }) m m,
          Value.agg
            #[Value.slice (some { block := gS, off := 0 }) n n,
              Value.slice (some { block := gF, off := 0 }) m m],
          undef, undef, undef, undef, undef, undef, undef, undef, undef, undef, undef, undef, undef, undef, undef,
          undef, undef, undef, undef, undef, undef, undef, undef], defers := [] } W := by
    intro W gS gF gy hs hf hy hb hd
    refine hK _ _ ?_
    have hs' : W.heap[gS]? = some (rowO (List.replicate n 0)) := by rw [hs]; unfold rowO; congr 2; simp [ints]
    have hf' : W.heap[gF]? = some (rowO (List.replicate m 0)) := by rw [hf]; unfold rowO; congr 2; simp [ints]
    have b0 := keep_cell hb c0
    have b1 := keep_cell hb c1
    have hy' : ∀ W' : World, W'.heap[gy]? = W.heap[gy]? → W'.cell? ⟨gy, 0, none⟩ = some (.slice (some ⟨gS, 0, none⟩) n n) ∧ W'.cell? ⟨gy, 1, none⟩ = some (.slice (some ⟨gF, 0, none⟩) m m) := fun W' e => ⟨(Dag.blk_cell (e.trans hy) 0).trans rfl, (Dag.blk_cell (e.trans hy) 1).trans rfl⟩
    obtain ⟨y0, y1⟩ := hy' W rfl
    have HW := Lib.hid (blw hw1 hb)
    have HR := Lib.hid ((hb.block _ (by rw [hz]; omega)).trans hr)
    have HD := Lib.hid hd
    have HS' := Lib.hid hs'; have HF' := Lib.hid hf'; have HY := Lib.hid hy'
    clear hs hf hs' hf' hy hy' hd hK
    go_wp2_with (first
      | (refine wpList_copy_ints rfl (.tmp 20) (.tmp 22) rfl gS n sc SA S HNS.out rfl rfl (HS.out.below HW.out) (List.replicate n 0) (by simp) HS'.out ?_; intro w2 ho2 hs2; have HO2 := Lib.hid ho2; have HS2 := Lib.hid hs2; have HW2 := Lib.hid (ho2.below HW.out (by have := HD.out; omega)); have HF2 := Lib.hid ((ho2.block gF (fun e => HD.out.1 e.symm)).trans HF'.out); have HY2 := Lib.hid ((ho2.block gy (fun e => HD.out.2.1 e.symm))); have HR2 := Lib.hid ((ho2.block _ (by have := HD.out; omega)).trans HR.out); have hx2 := HY.out w2 HY2.out; have y20 := hx2.1; have y21 := hx2.2; have b20 := (cell_keep (p := ⟨w.heap.size, 0, none⟩) (ho2.block w.heap.size (by have := HD.out; omega))).trans b0; have b21 := (cell_keep (p := ⟨w.heap.size, 1, none⟩) (ho2.block w.heap.size (by have := HD.out; omega))).trans b1; clear ho2 hs2 hx2 y0 y1 b0 b1)
      | (refine wpList_copy_ints rfl (.tmp 25) (.tmp 27) rfl gF m fc FA F HMF.out rfl rfl (HF.out.below HW2.out) (List.replicate m 0) (by simp) HF2.out ?_; intro w3 ho3 hf3; have HF3 := Lib.hid hf3; have HW3 := Lib.hid (ho3.below HW2.out (by have := HD.out; omega)); have HS3 := Lib.hid ((ho3.block gS (fun e => HD.out.1 e)).trans HS2.out); have HY3 := Lib.hid ((ho3.block gy (fun e => HD.out.2.2.1 e.symm)).trans HY2.out); have HR3 := Lib.hid ((ho3.block _ (by have := HD.out; omega)).trans HR2.out); clear ho3 hf3 y20 y21 b20 b21))
    go_loopw [31] (fun i wr => ∃ j : Nat, j ≤ k ∧ i = .int .i64 j ∧ Hid (Onl gS w3 wr) ∧ Hid (wr.heap[gS]? = some (rowO (putL S (l.take j) s)))) (fun i _ => k - (intOf i).toNat)
    case atStart => exact ⟨0, Nat.zero_le _, rfl, Lib.hid (Onl.refl _ _), HS3⟩
    case round =>
      obtain ⟨j, hj, rfl, HO, HG⟩ := hrel
      have hxr := HY.out wr ((HO.out.block gy (fun e => HD.out.2.1 e.symm)).trans HY3.out)
      obtain ⟨y0, y1⟩ := hxr
      have HWr := Lib.hid (HO.out.below HW3.out (by have := HD.out; omega))
      by_cases hlt : j < k
      · obtain ⟨b, off, x, rfl, hx, hc⟩ := (HB.out.below HWr.out).at_ (k := j) (by rw [Dag.num_len, HKL.out]; exact hlt)
        obtain ⟨v, hv⟩ : ∃ v, l[j]? = some v := ⟨_, List.getElem?_eq_getElem (by rw [HKL.out]; exact hlt)⟩
        rw [Dag.num_get, hv] at hx
        obtain rfl : (v : Int) = x := by simpa using hx
        have hvn := HL.out v (List.mem_of_getElem? hv)
        have hpl : (putL S (l.take j) s).length = n := by rw [putL_len, HNS.out]
        have cS := rowO_cell HG.out (k := v) (atI_lt (by rw [hpl]; exact hvn))
        have fS := Dag.blk_frozen HG.out v
        have HG2 := Lib.hid (show (wr.setCell ⟨gS, v, none⟩ (.int .i64 s)).heap[gS]? = some (rowO (putL S (l.take (j + 1)) s)) by
          rw [rowO_set HG.out, List.take_add_one, hv, Option.toList_some, putL_snoc])
        have HO2 := Lib.hid (HO.out.trans (Onl.set gS v wr (.int .i64 s)))
        clear hx hv hpl y1
        go_wp2
        go_roundw
        case rel => exact ⟨j + 1, by omega, by go_num, HO2, HG2⟩
        case measure => simp [intOf]; omega
      · obtain rfl : j = k := by omega
        have hrb := (HO.out.block (w.heap.size + 1) (by have := HD.out; omega)).trans HR3.out
        have r0 := (Dag.blk_cell hrb 0).trans rfl
        have r1 := (Dag.blk_cell hrb 1).trans rfl
        have rf0 := Dag.blk_frozen hrb 0
        have rf1 := Dag.blk_frozen hrb 1
        have HRB := Lib.hid hrb
        have HGF := Lib.hid (show wr.heap[gS]? = some (rowO (putL S l s)) by have := HG.out; rwa [List.take_of_length_le (by rw [HKL.out]; omega)] at this)
        clear hrb
        go_wp2
        have hbx : ((wr.setCell ⟨w.heap.size + 1, 0, none⟩ (.slice (some ⟨gS, 0, none⟩) n n)).setCell ⟨w.heap.size + 1, 1, none⟩ (.slice (some ⟨gF, 0, none⟩) m m)).heap[w.heap.size + 1]? = some (.cells #[.slice (some ⟨gS, 0, none⟩) n n, .slice (some ⟨gF, 0, none⟩) m m] 27 (0, 0)) := by
          have := Dag.blk_set (Dag.blk_set HRB.out 0 (.slice (some ⟨gS, 0, none⟩) n n)) 1 (.slice (some ⟨gF, 0, none⟩) m m)
          simpa using this
        refine bodyPost_ret (results_cell_row rfl _ _ _ _ _ _ _ rfl hbx Tryd.underlying27 rfl (by kernel_rfl)) rfl ?_
        have hd := HD.out
        have o1 := Onl.set (w.heap.size + 1) 0 wr (.slice (some ⟨gS, 0, none⟩) n n)
        have o2 := Onl.set (w.heap.size + 1) 1 (wr.setCell ⟨w.heap.size + 1, 0, none⟩ (.slice (some ⟨gS, 0, none⟩) n n)) (.slice (some ⟨gF, 0, none⟩) m m)
        have o3 := o1.trans o2
        exact ⟨gS, gF, rfl, hd.1, by omega, by omega, (o3.block _ (by omega)).trans HGF.out, (o3.block _ (by omega)).trans ((HO.out.block gF (fun e => hd.1 e.symm)).trans HF3.out), o3.below HWr.out (by omega)⟩
  clear hK
  go_region_held3 (fun W => W.cell? ⟨w.heap.size, 0, none⟩ = some (.slice SA n sc) ∧ W.cell? ⟨w.heap.size, 1, none⟩ = some (.slice FA m fc)) (first | exact ⟨c0, c1⟩ | exact ⟨keep_cell (al _ _) c0, keep_cell (al _ _) c1⟩ | exact ⟨keep_cell (al _ _) (keep_cell (al _ _) c0), keep_cell (al _ _) (keep_cell (al _ _) c1)⟩ | exact ⟨keep_cell (al _ _) (keep_cell (al _ _) (keep_cell (al _ _) c0)), keep_cell (al _ _) (keep_cell (al _ _) (keep_cell (al _ _) c1))⟩) (fail)
  all_goals show K _ _
  all_goals first
    | exact REST _ _ _ _ (nest3 _ _ _ hz).1 (nest3 _ _ _ hz).2.1 (nest3 _ _ _ hz).2.2.1 (nest3 _ _ _ hz).2.2.2 (by omega)
    | exact REST _ _ _ _ (nest3 _ _ _ hz).1 (nest3 _ _ _ hz).2.2.1 (nest3 _ _ _ hz).2.1 (nest3 _ _ _ hz).2.2.2 (by omega)
    | exact REST _ _ _ _ (nest3 _ _ _ hz).2.1 (nest3 _ _ _ hz).1 (nest3 _ _ _ hz).2.2.1 (nest3 _ _ _ hz).2.2.2 (by omega)
    | exact REST _ _ _ _ (nest3 _ _ _ hz).2.1 (nest3 _ _ _ hz).2.2.1 (nest3 _ _ _ hz).1 (nest3 _ _ _ hz).2.2.2 (by omega)
    | exact REST _ _ _ _ (nest3 _ _ _ hz).2.2.1 (nest3 _ _ _ hz).1 (nest3 _ _ _ hz).2.1 (nest3 _ _ _ hz).2.2.2 (by omega)
    | exact REST _ _ _ _ (nest3 _ _ _ hz).2.2.1 (nest3 _ _ _ hz).2.1 (nest3 _ _ _ hz).1 (nest3 _ _ _ hz).2.2.2 (by omega)
end Go.Proofs.YtgejonmjmieglaaDoor.Lf

