/- Layer 11. -/
import Derived.Test.YtapojmniokdjfaaBkMem
/- Layer 11: a book in memory: New, Get, Steps, Take. -/
namespace Go.Proofs.Ytapojmniokdjfaa.Bk
open Go.RowKit Go.Shelf
open Stp (blw al dr drN kp Stp OwnS RetP RetS clone_any new_any newL newE add_any addE addL inW)
set_option linter.unusedVariables false
set_option maxRecDepth 100000

/-- w' is w with new blocks, and with writes to blocks of which S holds alone -/
structure Wr (S : Nat → Prop) (w w' : World) : Prop where
  os : w'.os = w.os
  tape : w'.tape = w.tape
  output : w'.output = w.output
  size : w.heap.size ≤ w'.heap.size
  block : ∀ k, k < w.heap.size → ¬ S k → w'.heap[k]? = w.heap[k]?
theorem Wr.refl (S : Nat → Prop) (w : World) : Wr S w w := ⟨rfl, rfl, rfl, Nat.le_refl _, fun _ _ _ => rfl⟩
theorem Wr.trans {S : Nat → Prop} {a b c : World} (h : Wr S a b) (k : Wr S b c) : Wr S a c :=
  ⟨k.os.trans h.os, k.tape.trans h.tape, k.output.trans h.output, Nat.le_trans h.size k.size, fun i hi hs => (k.block i (Nat.lt_of_lt_of_le hi h.size) hs).trans (h.block i hi hs)⟩
theorem Wr.of_below {S : Nat → Prop} {w w' : World} (h : Below w.heap.size w w') : Wr S w w' := ⟨h.os, h.tape, h.output, h.size, fun k hk _ => h.block k hk⟩
theorem Wr.of_grown {S : Nat → Prop} {w w' : World} {row : Option Nat} (h : w.grownBy w' row) (hS : ∀ b, row = some b → S b) : Wr S w w' :=
  ⟨h.os, h.tape, h.output, h.size, fun k hk hs => h.block k hk fun e => hs (hS k e.symm)⟩
theorem Wr.setCell {S : Nat → Prop} {w : World} {p : Addr} (hp : S p.block) (u : Value) : Wr S w (w.setCell p u) :=
  ⟨rfl, rfl, rfl, by simp [World.setCell], fun k hk hs => Below.heap_setCell w p u k (fun e => by subst e; exact hs hp)⟩
theorem Wr.below {S : Nat → Prop} {w w' : World} {base : Nat} (h : Wr S w w') (hb : base ≤ w.heap.size) (hS : ∀ b, S b → base ≤ b) : Below base w w' :=
  ⟨h.os, h.tape, h.output, h.size, fun k hk => h.block k (by omega) fun e => by have := hS k e; omega⟩
theorem Wr.cell {S : Nat → Prop} {w w' : World} {b o : Nat} {v : Value} (h : Wr S w w') (hb : ¬ S b) (hc : w.cell? ⟨b, o, none⟩ = some v) : w'.cell? ⟨b, o, none⟩ = some v := by
  have hl := World.block_lt_of_cell? w _ hc
  unfold World.cell? at hc ⊢
  rw [h.block b hl hb]; exact hc

/-- the blocks of a book -/
def GB (g m : Nat) (b : Nat) : Prop := b = g ∨ b = m
/-- block g is a book, block m its map; the nodes that are free are the steps F -/
structure BookM (w : World) (g m : Nat) (N : Int) (F : List StepD) (L : List SlotD) : Prop where
  blk : ∃ A c, w.heap[g]? = some (.cells #[.int .i64 N, .map (some m), .slice A F.length c] 65 (0, 0)) ∧ Stp w A c F
  map : MapS w m L
theorem BookM.ne {w : World} {g m : Nat} {N : Int} {F : List StepD} {L : List SlotD} (h : BookM w g m N F L) : g ≠ m := by
  obtain ⟨A, c, h1, _⟩ := h.blk
  obtain ⟨es, k, h2⟩ := h.map.obj
  intro e
  subst e
  rw [h1] at h2
  cases h2
theorem BookM.lt {w : World} {g m : Nat} {N : Int} {F : List StepD} {L : List SlotD} (h : BookM w g m N F L) : g < w.heap.size ∧ m < w.heap.size := by
  obtain ⟨A, c, h1, _⟩ := h.blk
  exact ⟨Dag.blk_lt h1, h.map.lt⟩
theorem BookM.below {w w' : World} {g m : Nat} {N : Int} {F : List StepD} {L : List SlotD} (h : BookM w g m N F L) (hb : Below w.heap.size w w') : BookM w' g m N F L := by
  obtain ⟨A, c, h1, h2⟩ := h.blk
  exact ⟨⟨A, c, by rw [hb.block g (Dag.blk_lt h1)]; exact h1, h2.below hb⟩, h.map.below hb⟩
/-- what two ints that stand together are not: a book, a map -/
theorem not_map {w : World} {m : Nat} {L : List SlotD} (h : MapS w m L) {o : Nat} {v : Value} (hc : w.cell? ⟨m, o, none⟩ = some v) : False := by
  obtain ⟨es, k, h2⟩ := h.obj
  simp [World.cell?, h2] at hc
theorem not_book {w : World} {g : Nat} {a b c : Value} {t : TypeId} (h : w.heap[g]? = some (.cells #[a, b, c] t (0, 0))) (hb : ∀ x, b ≠ .int .i64 x) (hcc : ∀ x, c ≠ .int .i64 x) {o : Nat} {x y : Int} (h0 : w.cell? ⟨g, o, none⟩ = some (.int .i64 x)) (h1 : w.cell? ⟨g, o + 1, none⟩ = some (.int .i64 y)) : False := by
  rw [Dag.blk_cell h] at h0 h1
  match o, h0, h1 with
  | 0, _, h1 => simp at h1; exact hb y h1
  | 1, h0, _ => simp at h0; exact hb x h0
  | 2, h0, _ => simp at h0; exact hcc x h0
  | o + 3, h0, _ => simp at h0
section
variable {w w' : World} {g m : Nat} {N : Int} {F : List StepD} {L : List SlotD}
theorem BookM.apart2 (h : BookM w g m N F L) {b o : Nat} {x y : Int} (h0 : w.cell? ⟨b, o, none⟩ = some (.int .i64 x)) (h1 : w.cell? ⟨b, o + 1, none⟩ = some (.int .i64 y)) : ¬ GB g m b := by
  obtain ⟨A, c, hg, _⟩ := h.blk
  rintro (rfl | rfl)
  · exact not_book hg (fun x e => by cases e) (fun x e => by cases e) h0 h1
  · exact not_map h.map h0
theorem _root_.Go.Proofs.Ytapojmniokdjfaa.Stp.Stp.wr {A : Option Addr} {c : Nat} {l : List StepD} (h : Stp w A c l) (hB : BookM w g m N F L) (hw : Wr (GB g m) w w') : Stp w' A c l := by
  refine ⟨fun k s hk => ?_, h.cap, h.top, h.nil⟩
  obtain ⟨b, off, e, h0, h1⟩ := h.cells k s hk
  have ha := hB.apart2 h0 h1
  exact ⟨b, off, e, hw.cell ha h0, hw.cell ha h1⟩
theorem C4.wr {b o : Nat} {s : SlotD} (h : C4 w b o s) (hB : BookM w g m N F L) (hw : Wr (GB g m) w w') : C4 w' b o s := by
  have ha := hB.apart2 h.id h.fm
  exact ⟨hw.cell ha h.id, hw.cell ha h.fm, hw.cell ha h.to, hw.cell ha h.nd⟩
theorem Slt.wr {A : Option Addr} {c : Nat} {l : List SlotD} (h : Slt w A c l) (hB : BookM w g m N F L) (hw : Wr (GB g m) w w') : Slt w' A c l := by
  refine ⟨fun k s hk => ?_, h.cap, h.top, h.nil⟩
  obtain ⟨b, off, e, h0⟩ := h.cells k s hk
  exact ⟨b, off, e, h0.wr hB hw⟩
/-- another book -/
theorem BookM.other {g' m' : Nat} {N' : Int} {F' : List StepD} {L' : List SlotD} (h : BookM w g m N F L) (hB : BookM w g' m' N' F' L') (hw : Wr (GB g' m') w w') (hg : ¬ GB g' m' g) (hm : ¬ GB g' m' m) : BookM w' g m N F L := by
  obtain ⟨A, c, h1, h2⟩ := h.blk
  have hl := h.map.lt
  refine ⟨⟨A, c, by rw [hw.block g (Dag.blk_lt h1) hg]; exact h1, h2.wr hB hw⟩, ?_⟩
  obtain ⟨D, ⟨es, clock, q, r⟩, hd⟩ := h.map.own
  exact ⟨D, ⟨es, clock, by rw [hw.block m hl hm]; exact q, r⟩, hd⟩
end
/-- a book's nodes stored anew -/
theorem BookM.store {w : World} {g m : Nat} {N : Int} {F F' : List StepD} {L : List SlotD} (h : BookM w g m N F L) {A : Option Addr} {n c : Nat} (hn : n = F'.length) (hs : Stp w A c F') : BookM (w.setCell ⟨g, 2, none⟩ (.slice A n c)) g m N F' L ∧ Wr (GB g m) w (w.setCell ⟨g, 2, none⟩ (.slice A n c)) := by
  subst hn
  have hW : Wr (GB g m) w (w.setCell ⟨g, 2, none⟩ (.slice A F'.length c)) := Wr.setCell (Or.inl rfl) _
  obtain ⟨A0, c0, h1, h2⟩ := h.blk
  refine ⟨⟨⟨A, c, ?_, hs.wr h hW⟩, ?_⟩, hW⟩
  · have := Dag.blk_set h1 2 (.slice A F'.length c)
    simpa using this
  · obtain ⟨D, ho, hd⟩ := h.map.own
    exact ⟨D, ho.setCell (a := ⟨g, 2, none⟩) (fun e => h.ne e.symm) _, hd⟩
/-- a book's map changed -/
theorem BookM.mapped {w w' : World} {g m : Nat} {N : Int} {F : List StepD} {L L' : List SlotD} (h : BookM w g m N F L) (hg : w.grownBy w' (some m)) (hm : MapS w' m L') : BookM w' g m N F L' ∧ Wr (GB g m) w w' := by
  have hW : Wr (GB g m) w w' := Wr.of_grown hg fun b e => by injection e with e; exact Or.inr e.symm
  have hne := h.ne
  obtain ⟨A, c, h1, h2⟩ := h.blk
  exact ⟨⟨⟨A, c, by rw [hg.block g (Dag.blk_lt h1) (fun e => by injection e with e; exact hne e)]; exact h1, h2.wr h hW⟩, hm⟩, hW⟩

/-! New -/
def RetN (n : Int) (w : World) (e : Ending) (w' : World) : Prop :=
  if 1 ≤ n ∧ n ≤ 10000 then ∃ g m, e = .returned (.tuple #[.pointer (some ⟨g, 0, none⟩), .int .i64 0]) ∧ BookM w' g m n [⟨0, n⟩] [] ∧ w.heap.size ≤ g ∧ w.heap.size ≤ m ∧ Below w.heap.size w w'
  else e = .returned (.tuple #[.pointer none, .int .i64 2]) ∧ Below w.heap.size w w'
theorem newb_any (n : Int) (w : World) : Calls Try.prog 10 #[.int .i64 n] w (RetN n w) := by
  have HN := Lib.hid fun (W : World) => new_any n W
  have hmm : ∀ W : World, (Instr.makeMap 63 none).run Try.prog W = .ok (.map (some W.heap.size)) (W.alloc (.map #[] 0)) := fun W => rfl
  unfold RetS newL newE at HN
  by_cases h1 : n < 1
  · go_enter Try.func10, Try.ntmps10
    go_wp2
    go_ret2
    unfold RetN
    rw [if_neg (by omega)]
    exact ⟨rfl, Below.refl _ _⟩
  · by_cases h2 : n ≤ 10000
    · rw [show nodeOK n = true from nodeOK_iff.2 (by omega), if_pos rfl, if_pos rfl] at HN
      go_enter Try.func10, Try.ntmps10
      go_wp2_with fail
      refine (HN.out _).mono ?_
      rintro e w1 ⟨A1, c1, rfl, hs1, hb1⟩
      have HS := Lib.hid hs1; have HB := Lib.hid hb1
      clear hs1 hb1
      go_wp2
      go_ret2
      have h0 := al w1 (.map #[] 0)
      have h3 := blw h0 (al (w1.alloc (.map #[] 0)) (.cells #[.int .i64 n, .map (some w1.heap.size), .slice A1 [(⟨0, n⟩ : StepD)].length c1] 65))
      unfold RetN
      rw [if_pos (by omega)]
      have hx := heap_alloc_new (w1.alloc (.map #[] 0)) (.cells #[.int .i64 n, .map (some w1.heap.size), .slice A1 [(⟨0, n⟩ : StepD)].length c1] 65)
      rw [show (w1.alloc (.map #[] 0)).heap.size = w1.heap.size + 1 from by simp] at hx
      refine ⟨_, _, rfl, ⟨⟨A1, c1, hx, HS.out.below h3⟩, (MapS.new w1).below (al _ _)⟩, ?_, ?_, blw HB.out h3⟩
      · have := HB.out.size; simp; omega
      · exact HB.out.size
    · rw [show nodeOK n = false from by simp [nodeOK]; omega, if_neg (by decide), if_neg (by decide)] at HN
      go_enter Try.func10, Try.ntmps10
      go_wp2_with fail
      refine (HN.out _).mono ?_
      rintro e w1 ⟨A1, c1, rfl, hs1, hb1⟩
      have HB := Lib.hid hb1
      clear hs1 hb1
      go_wp2
      go_ret2
      unfold RetN
      rw [if_neg (by omega)]
      exact ⟨rfl, HB.out⟩
theorem times_any (a b : Int) (w : World) : Calls Try.prog 43 #[.int .i64 a, .int .i64 b] w fun e w' => e = .returned (.bool (Clk.isT a && (Clk.isT b && decide (a < b)))) ∧ w = w' := by
  have ha := fun (W : World) => Clk.is_any a W
  have hb := fun (W : World) => Clk.is_any b W
  cases h1 : Clk.isT a
  · rw [h1] at ha
    clear h1
    go_enter Try.func43, Try.ntmps43
    go_wp2_with fail
    refine (ha _).mono ?_
    rintro e w1 ⟨rfl, rfl⟩
    go_wp2
    go_ret
    exact ⟨rfl, rfl⟩
  · rw [h1] at ha
    cases h2 : Clk.isT b
    · rw [h2] at hb
      clear h1 h2
      go_enter Try.func43, Try.ntmps43
      go_wp2_with fail
      refine (ha _).mono ?_
      rintro e w1 ⟨rfl, rfl⟩
      go_wp2_with fail
      refine (hb _).mono ?_
      rintro e w1 ⟨rfl, rfl⟩
      go_wp2
      go_ret
      exact ⟨rfl, rfl⟩
    · rw [h2] at hb
      clear h1 h2
      go_enter Try.func43, Try.ntmps43
      go_wp2_with fail
      refine (ha _).mono ?_
      rintro e w1 ⟨rfl, rfl⟩
      go_wp2_with fail
      refine (hb _).mono ?_
      rintro e w1 ⟨rfl, rfl⟩
      go_wp2
      go_ret
      exact ⟨by simp, rfl⟩
end Go.Proofs.Ytapojmniokdjfaa.Bk
/- Layer 11: Take. -/
namespace Go.Proofs.Ytapojmniokdjfaa.Bk
open Go.RowKit Go.Shelf
open Stp (blw al dr drN kp Stp OwnS RetP RetS clone_any add_any addE addL inW)
set_option linter.unusedVariables false
set_option maxRecDepth 100000

theorem gtr {a b d : World} {r : Option Nat} (h : a.grownBy b r) (k : b.grownBy d r) : a.grownBy d r :=
  ⟨k.os.trans h.os, k.tape.trans h.tape, k.output.trans h.output, Nat.le_trans h.size k.size, fun i hi hr => (k.block i (Nat.lt_of_lt_of_le hi h.size) hr).trans (h.block i hi hr)⟩
theorem _root_.Go.World.grownBy.below {a w w' : World} {r n : Nat} (h : w.grownBy w' (some r)) (hb : Below n a w) (hr : n ≤ r) (hn : n ≤ w.heap.size) : Below n a w' :=
  hb.trans ⟨h.os, h.tape, h.output, h.size, fun i hi => h.block i (by omega) (fun e => by injection e with e; omega)⟩
theorem BookM.cells {w : World} {g m : Nat} {N : Int} {F : List StepD} {L : List SlotD} (h : BookM w g m N F L) : ∃ A c, Stp w A c F ∧ w.cell? ⟨g, 0, none⟩ = some (.int .i64 N) ∧ w.cell? ⟨g, 1, none⟩ = some (.map (some m)) ∧ w.cell? ⟨g, 2, none⟩ = some (.slice A F.length c) ∧ w.frozen? ⟨g, 2, none⟩ = false := by
  obtain ⟨A, c, h1, h2⟩ := h.blk
  exact ⟨A, c, h2, (Dag.blk_cell h1 0).trans rfl, (Dag.blk_cell h1 1).trans rfl, (Dag.blk_cell h1 2).trans rfl, Dag.blk_frozen h1 2⟩
set_option maxHeartbeats 800000 in
theorem valid_any (s : SlotD) (w : World) (g m : Nat) (N : Int) (F : List StepD) (L : List SlotD) (h : BookM w g m N F L) :
    Calls Try.prog 35 #[.pointer (some ⟨g, 0, none⟩), .agg #[.int .i64 s.id, .int .i64 s.fm, .int .i64 s.to, .int .i64 s.nd]] w fun e w' => e = .returned (.bool (slotB N s)) ∧ Below w.heap.size w w' := by
  have HT := Lib.hid fun (W : World) => times_any s.fm s.to W
  obtain ⟨A, c, hs, c0, c1, c2, cf⟩ := h.cells
  have hb := al w (.cells #[.int .i64 s.id, .int .i64 s.fm, .int .i64 s.to, .int .i64 s.nd] 32)
  have k4 := kp hb c0
  obtain ⟨k0, k1, k2, k3⟩ := C4.new w s 32
  rw [Nat.zero_add] at k1 k2 k3
  have HB := Lib.hid hb
  clear hb
  unfold slotB
  rw [show (Clk.isT s.fm && (Clk.isT s.to && (decide (s.fm < s.to) && (decide (1 ≤ s.nd) && decide (s.nd ≤ N))))) = ((Clk.isT s.fm && (Clk.isT s.to && decide (s.fm < s.to))) && (decide (1 ≤ s.nd) && decide (s.nd ≤ N))) from by simp only [Bool.and_assoc]]
  cases ht : (Clk.isT s.fm && (Clk.isT s.to && decide (s.fm < s.to)))
  · rw [ht] at HT
    rw [Bool.false_and, Bool.and_false]
    clear hs c0 c1 c2 cf h ht
    by_cases h1 : 1 ≤ s.id
    · have d1 : decide (s.id ≥ 1) = true := decide_eq_true h1
      go_enter Try.func35, Try.ntmps35
      go_wp2_with fail
      generalize w.alloc (.cells #[.int .i64 s.id, .int .i64 s.fm, .int .i64 s.to, .int .i64 s.nd] 32) = W1 at k0 k1 k2 k3 k4 HB ⊢
      generalize w.heap.size = tb at k0 k1 k2 k3 ⊢
      go_quiet (first | (go_at_call 43; refine Calls.quiet_of_same ((HT.out _).mono fun _ _ h => ⟨h.1, h.2.symm⟩)))
      go_wp2
      go_ret
      exact ⟨rfl, blw HB.out (drN _ _)⟩
    · have d1 : decide (s.id ≥ 1) = false := decide_eq_false h1
      go_enter Try.func35, Try.ntmps35
      go_wp2_with fail
      generalize w.alloc (.cells #[.int .i64 s.id, .int .i64 s.fm, .int .i64 s.to, .int .i64 s.nd] 32) = W1 at k0 k1 k2 k3 k4 HB ⊢
      generalize w.heap.size = tb at k0 k1 k2 k3 ⊢
      go_quiet (first | (go_at_call 43; refine Calls.quiet_of_same ((HT.out _).mono fun _ _ h => ⟨h.1, h.2.symm⟩)))
      go_wp2
      go_ret
      exact ⟨rfl, blw HB.out (drN _ _)⟩
  · rw [ht] at HT
    rw [Bool.true_and]
    clear hs c0 c1 c2 cf h ht
    by_cases h1 : 1 ≤ s.id
    · have d1 : decide (s.id ≥ 1) = true := decide_eq_true h1
      rw [decide_eq_true h1, Bool.true_and]
      by_cases h2 : 1 ≤ s.nd
      · have d2 : decide (1 ≤ s.nd) = true := decide_eq_true h2
        rw [decide_eq_true h2, Bool.true_and]
        by_cases h3 : s.nd ≤ N
        · have d3 : decide (s.nd ≤ N) = true := decide_eq_true h3
          rw [decide_eq_true h3]
          go_enter Try.func35, Try.ntmps35
          go_wp2_with fail
          generalize w.alloc (.cells #[.int .i64 s.id, .int .i64 s.fm, .int .i64 s.to, .int .i64 s.nd] 32) = W1 at k0 k1 k2 k3 k4 HB ⊢
          generalize w.heap.size = tb at k0 k1 k2 k3 ⊢
          go_quiet (first | (go_at_call 43; refine Calls.quiet_of_same ((HT.out _).mono fun _ _ h => ⟨h.1, h.2.symm⟩)))
          go_wp2
          go_ret
          exact ⟨rfl, blw HB.out (drN _ _)⟩
        · have d3 : decide (s.nd ≤ N) = false := decide_eq_false h3
          rw [decide_eq_false h3]
          go_enter Try.func35, Try.ntmps35
          go_wp2_with fail
          generalize w.alloc (.cells #[.int .i64 s.id, .int .i64 s.fm, .int .i64 s.to, .int .i64 s.nd] 32) = W1 at k0 k1 k2 k3 k4 HB ⊢
          generalize w.heap.size = tb at k0 k1 k2 k3 ⊢
          go_quiet (first | (go_at_call 43; refine Calls.quiet_of_same ((HT.out _).mono fun _ _ h => ⟨h.1, h.2.symm⟩)))
          go_wp2
          go_ret
          exact ⟨rfl, blw HB.out (drN _ _)⟩
      · have d2 : decide (1 ≤ s.nd) = false := decide_eq_false h2
        rw [decide_eq_false h2, Bool.false_and]
        go_enter Try.func35, Try.ntmps35
        go_wp2_with fail
        generalize w.alloc (.cells #[.int .i64 s.id, .int .i64 s.fm, .int .i64 s.to, .int .i64 s.nd] 32) = W1 at k0 k1 k2 k3 k4 HB ⊢
        generalize w.heap.size = tb at k0 k1 k2 k3 ⊢
        go_quiet (first | (go_at_call 43; refine Calls.quiet_of_same ((HT.out _).mono fun _ _ h => ⟨h.1, h.2.symm⟩)))
        go_wp2
        go_ret
        exact ⟨rfl, blw HB.out (drN _ _)⟩
    · have d1 : decide (s.id ≥ 1) = false := decide_eq_false h1
      rw [decide_eq_false h1, Bool.false_and]
      go_enter Try.func35, Try.ntmps35
      go_wp2_with fail
      generalize w.alloc (.cells #[.int .i64 s.id, .int .i64 s.fm, .int .i64 s.to, .int .i64 s.nd] 32) = W1 at k0 k1 k2 k3 k4 HB ⊢
      generalize w.heap.size = tb at k0 k1 k2 k3 ⊢
      go_quiet (first | (go_at_call 43; refine Calls.quiet_of_same ((HT.out _).mono fun _ _ h => ⟨h.1, h.2.symm⟩)))
      go_wp2
      go_ret
      exact ⟨rfl, blw HB.out (drN _ _)⟩

end Go.Proofs.Ytapojmniokdjfaa.Bk

