/- Layer 13: Ready, Fail. -/
import Derived.Test.YtgejonmjmieglaaDoorLifI
import Derived.Deep.RegionHeld3
namespace Go.Proofs.YtgejonmjmieglaaDoor.Lf
open Go.RowKit
open Dag (Ints IRows Own1 OwnI Sl ints num info_int info_is arc Plus)
set_option linter.unusedVariables false
set_option maxRecDepth 100000

theorem num_filter (L : List Nat) (p : Nat → Bool) : (num L).filter (fun x => !(!p x.toNat)) = num (L.filter p) := by
  unfold num
  rw [List.filter_map]
  congr 1
  apply List.filter_congr
  intro v _
  simp
theorem two_heap (f : FlowD) (A : Option Addr) (c : Nat) (SA FA : Option Addr) (n sc m fc : Nat) (w : World) : ((w.alloc (flowO f A c)).alloc (lifO SA n sc FA m fc)).heap[w.heap.size]? = some (flowO f A c) ∧ ((w.alloc (flowO f A c)).alloc (lifO SA n sc FA m fc)).heap[w.heap.size + 1]? = some (lifO SA n sc FA m fc) := by
  have h2 := heap_alloc_new (w.alloc (flowO f A c)) (lifO SA n sc FA m fc)
  rw [World.size_alloc] at h2
  exact ⟨keep_obj (al _ _) (heap_alloc_new w _), h2⟩
theorem delR_num (bf bx : Nat) (p : Nat → Bool) (L : List Nat) (w : World) (base : Nat) (A : Option Addr) (c : Nat) (ho : OwnI w base (.slice A (num L).length c) (num L)) (hbase : base ≤ w.heap.size)
    (CC : ∀ W, Below base w W → ∀ x ∈ num L, Calls Tryd.prog 42 #[.int .i64 x, .pointer (some ⟨bf, 0, none⟩), .pointer (some ⟨bx, 0, none⟩)] W fun e w' => e = .returned (.bool (!p x.toNat)) ∧ Below W.heap.size W w') :
    Calls Tryd.prog 40 #[.slice A (num L).length c, .func (.func 42) #[] #[.pointer (some ⟨bf, 0, none⟩), .pointer (some ⟨bx, 0, none⟩)]] w fun e w' => ∃ A' c', e = .returned (.slice A' (num (L.filter p)).length c') ∧ Ints w' A' c' (num (L.filter p)) ∧ Below base w w' := by
  have h := delR bf bx (fun x => !p x.toNat) (num L) _ rfl w base A c ho hbase CC
  rw [num_filter] at h
  exact h
set_option maxHeartbeats 1600000 in
theorem rdc_any (f : FlowD) (A : Option Addr) (c : Nat) (w : World) (S F : List Int) (SA FA : Option Addr) (n sc m fc : Nat) (b : Bool) (h : LfA w f A c SA n sc FA m fc S F b) (h0 : lifeE f b = 0) (bf bx : Nat) (hf : w.heap[bf]? = some (flowO f A c)) (hx : w.heap[bx]? = some (lifO SA n sc FA m fc)) (v : Nat) (hv : v < f.tasks.length) (r : Bool) (hr : frv f.tasks S v = r) :
    Calls Tryd.prog 42 #[.int .i64 (v : Int), .pointer (some ⟨bf, 0, none⟩), .pointer (some ⟨bx, 0, none⟩)] w fun e w' => e = .returned (.bool (!r)) ∧ Below w.heap.size w w' := by
  obtain ⟨t, ht⟩ : ∃ t, f.tasks[v]? = some t := ⟨_, List.getElem?_eq_getElem hv⟩
  have HF := Lib.hid fun W (hW : Below w.heap.size w W) => isFree_any f A c W (h.h.below hW) S F SA FA n sc m fc (h.lif.below hW) v t ht (h.after h0 (List.mem_of_getElem? ht)) r (by rw [← frv_some ht]; exact hr)
  obtain ⟨p0, p1, p2, p3, hp⟩ := flowO_cells hf
  obtain ⟨x0, x1, _, _⟩ := lifO_cells hx
  clear h hf hx ht hr h0
  go_enter Tryd.func42, Tryd.ntmps42
  go_wp2_with fail
  refine (HF.out _ (Below.refl _ _)).mono ?_
  rintro e w1 ⟨rfl, hb1⟩
  go_wp2
  go_ret
  exact ⟨rfl, hb1⟩
def readyL (f : FlowD) (b : Bool) (S : List Int) : List Nat := if lifeE f b = 0 then (standL S [0]).filter (frv f.tasks S) else []
def RetLI (w : World) (L : List Int) (er : Int) (e : Ending) (w' : World) : Prop := ∃ A c, e = .returned (.tuple #[.slice A L.length c, .int .i64 er]) ∧ Ints w' A c L ∧ Below w.heap.size w w'
set_option maxHeartbeats 3200000 in
theorem ready_any (f : FlowD) (A : Option Addr) (c : Nat) (w : World) (S F : List Int) (SA FA : Option Addr) (n sc m fc : Nat) (b : Bool) (h : LfA w f A c SA n sc FA m fc S F b) :
    Calls Tryd.prog 18 #[.agg #[.string (sb f.name), .int .i64 f.deadline, .int .i64 f.priority, .slice A f.tasks.length c], .agg #[.slice SA n sc, .slice FA m fc]] w (RetLI w (num (readyL f b S)) (lifeE f b)) := by
  have HC := Lib.hid fun W (hW : Below w.heap.size w W) => (h.below hW).check
  obtain ⟨z, hz⟩ : ∃ z, lifeE f b = z := ⟨_, rfl⟩
  unfold readyL
  rw [hz] at HC ⊢
  by_cases h0 : z = 0
  case neg =>
    rw [if_neg h0]
    have hxn : (z != 0) = true := by simp [h0]
    clear h0 h hz
    go_enter Tryd.func18, Tryd.ntmps18
    go_wp2_with fail
    refine (HC.out _ (ba2 (b := 0) (Below.refl _ _))).mono ?_
    rintro e w1 ⟨rfl, hb1⟩
    have HB1 := Lib.hid (show Below w.heap.size w w1 from blw (ba2 (b := 0) (Below.refl _ _)) hb1)
    clear hb1
    go_wp2
    go_ret2
    exact ⟨none, 0, rfl, Ints.empty _, HB1.out⟩
  subst h0
  rw [if_pos rfl]
  obtain ⟨hc0, hok, hnn, hmm, hn4⟩ := h.sizes hz
  have CS := Lib.hid fun W (hW : Below w.heap.size w W) B d (hB : Ints W B d [0]) => standing_any S [0] n 1 h.lif.n rfl (by omega) W SA FA B sc m fc d (h.lif.s.below hW) hB
  obtain ⟨L, hL⟩ : ∃ L, standL S [0] = L := ⟨_, rfl⟩
  have hLm : ∀ v ∈ L, v < f.tasks.length := fun v hv => by rw [← hL] at hv; have := (stand_mem.1 hv).1; rw [h.lif.n, hnn] at this; exact this
  have CR := Lib.hid fun W (hW : Below w.heap.size w W) (hf : W.heap[w.heap.size]? = some (flowO f A c)) (hx : W.heap[w.heap.size + 1]? = some (lifO SA n sc FA m fc)) v hv r hr => rdc_any f A c W S F SA FA n sc m fc b (h.below hW) hz w.heap.size (w.heap.size + 1) hf hx v hv r hr
  rw [hL] at CS ⊢
  have HLM := Lib.hid hLm
  clear h hz hc0 hok hnn hmm hn4 hL hLm
  go_enter Tryd.func18, Tryd.ntmps18
  go_wp2_with fail
  refine (HC.out _ (ba2 (b := 0) (Below.refl _ _))).mono ?_
  rintro e w1 ⟨rfl, hb1⟩
  have HB1 := Lib.hid (show Below w.heap.size w w1 from blw (ba2 (b := 0) (Below.refl _ _)) hb1)
  have hf1 : w1.heap[w.heap.size]? = some (flowO f A c) := keep_obj hb1 (keep_obj (al _ _) (heap_alloc_new w _))
  have hx1 : w1.heap[w.heap.size + 1]? = some (lifO SA n sc FA m fc) := keep_obj hb1 (two_heap f A c SA FA n sc m fc w).2
  have hsz := hb1.size
  obtain ⟨x0, x1, _, _⟩ := lifO_cells hx1
  have HF1 := Lib.hid hf1; have HX1 := Lib.hid hx1
  clear hb1 hf1 hx1
  go_wp2_with fail
  refine (CS.out _ (ba1 (b := 0) HB1.out) _ _ (ia1 rfl)).mono ?_
  rintro e w2 ⟨A2, c2, rfl, ho, hb2⟩
  have HB2 := Lib.hid (show Below w.heap.size w w2 from blw (ba1 (b := 0) HB1.out) hb2)
  have HF2 := Lib.hid (keep_obj hb2 (keep_obj (al _ _) HF1.out))
  have HX2 := Lib.hid (keep_obj hb2 (keep_obj (al _ _) HX1.out))
  have HZ2 := Lib.hid hb2.size
  have HO2 := Lib.hid ho
  clear hb2 ho x0 x1
  have DR := Lib.hid (delR_num w.heap.size (w.heap.size + 1) (frv f.tasks S) L w2 _ A2 c2 HO2.out HZ2.out (by
    intro W hW x hx
    obtain ⟨v, rfl, hv⟩ := Dag.num_mem'.1 hx
    have hsz1 : w.heap.size + 1 < w1.heap.size := Dag.blk_lt HX1.out
    exact CR.out W (HB2.out.trans (hW.mono (by simp; omega))) ((hW.block _ (by simp; omega)).trans HF2.out) ((hW.block _ (by simp; omega)).trans HX2.out) v (HLM.out v hv) _ (by rw [Int.toNat_natCast])))
  obtain ⟨L2, hL2⟩ : ∃ L2, L.filter (frv f.tasks S) = L2 := ⟨_, rfl⟩
  rw [hL2] at DR
  have HL2 := Lib.hid hL2
  clear hL2
  go_wp2_with fail
  refine DR.out.mono ?_
  rintro e w3 ⟨A3, c3, rfl, hi3, hb3⟩
  have HB3 := Lib.hid (show Below w.heap.size w w3 from HB2.out.trans (hb3.mono (by have := HB1.out.size; simp; omega)))
  have HI3 := Lib.hid hi3
  clear hi3 hb3
  go_wp2
  go_ret2
  rw [HL2.out]
  exact ⟨A3, c3, rfl, HI3.out, HB3.out⟩
end Go.Proofs.YtgejonmjmieglaaDoor.Lf

