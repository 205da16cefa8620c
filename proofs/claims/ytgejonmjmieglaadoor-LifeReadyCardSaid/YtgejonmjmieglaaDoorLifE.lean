/- Layer 13: Check. -/
import Derived.Test.YtgejonmjmieglaaDoorLifD
namespace Go.Proofs.YtgejonmjmieglaaDoor.Lf
open Go.RowKit
open Dag (Ints IRows Own1 OwnI Sl ints num info_int info_is arc Plus)
set_option linter.unusedVariables false
set_option maxRecDepth 100000

theorem two_boxesG (v0 v1 v2 v3 u0 u1 : Value) (w : World) : ((w.alloc (.cells #[v0, v1, v2, v3] 24)).alloc (.cells #[u0, u1] 27)).cell? ⟨w.heap.size, 0, none⟩ = some v0 ∧ ((w.alloc (.cells #[v0, v1, v2, v3] 24)).alloc (.cells #[u0, u1] 27)).cell? ⟨w.heap.size, 1, none⟩ = some v1 ∧ ((w.alloc (.cells #[v0, v1, v2, v3] 24)).alloc (.cells #[u0, u1] 27)).cell? ⟨w.heap.size, 2, none⟩ = some v2 ∧ ((w.alloc (.cells #[v0, v1, v2, v3] 24)).alloc (.cells #[u0, u1] 27)).cell? ⟨w.heap.size, 3, none⟩ = some v3 ∧ ((w.alloc (.cells #[v0, v1, v2, v3] 24)).alloc (.cells #[u0, u1] 27)).cell? ⟨w.heap.size + 1, 0, none⟩ = some u0 ∧ ((w.alloc (.cells #[v0, v1, v2, v3] 24)).alloc (.cells #[u0, u1] 27)).cell? ⟨w.heap.size + 1, 1, none⟩ = some u1 := by
  have h1 := keep_obj (al _ (.cells #[u0, u1] 27)) (heap_alloc_new w (.cells #[v0, v1, v2, v3] 24))
  have h2 := heap_alloc_new (w.alloc (.cells #[v0, v1, v2, v3] 24)) (.cells #[u0, u1] 27)
  rw [World.size_alloc] at h2
  exact ⟨(Dag.blk_cell h1 0).trans rfl, (Dag.blk_cell h1 1).trans rfl, (Dag.blk_cell h1 2).trans rfl, (Dag.blk_cell h1 3).trans rfl, (Dag.blk_cell h2 0).trans rfl, (Dag.blk_cell h2 1).trans rfl⟩
set_option maxHeartbeats 1600000 in
theorem chk_bad (f : FlowD) (A : Option Addr) (c : Nat) (w : World) (h : Tasks w A c f.tasks) (hT : Tb3 w) (hl : f.name.length ≤ 9000000000000000000) (hn : ∀ t ∈ f.tasks, t.name.length ≤ 9000000000000000000) (SA FA : Option Addr) (n sc m fc : Nat) (x : Int) (hx : checkE f = x) (h0 : x ≠ 0) :
    Calls Tryd.prog 24 #[.agg #[.string (sb f.name), .int .i64 f.deadline, .int .i64 f.priority, .slice A f.tasks.length c], .agg #[.slice SA n sc, .slice FA m fc]] w fun e w' => e = .returned (.int .i64 x) ∧ Below w.heap.size w w' := by
  have HC := Lib.hid fun W (hW : Below w.heap.size w W) => check_all f A c W (h.below hW) (hT.below hW) hl hn
  have hxn : (x != 0) = true := by simp [h0]
  rw [hx] at HC
  clear h0 hx h hT hl hn
  go_enter Tryd.func24, Tryd.ntmps24
  go_wp2_with fail
  refine (HC.out _ (ba2 (b := 0) (Below.refl _ _))).mono ?_
  rintro e w1 ⟨rfl, hb1⟩
  have HB1 := Lib.hid (blw (ba2 (b := 0) (Below.refl w.heap.size w)) hb1)
  clear hb1
  go_wp2
  go_ret
  exact ⟨rfl, HB1.out⟩
set_option maxHeartbeats 1600000 in
theorem chk_len (f : FlowD) (A : Option Addr) (c : Nat) (w : World) (h : Tasks w A c f.tasks) (hT : Tb3 w) (hl : f.name.length ≤ 9000000000000000000) (hn : ∀ t ∈ f.tasks, t.name.length ≤ 9000000000000000000) (SA FA : Option Addr) (n sc m fc : Nat) (hx : checkE f = 0) (h1 : n ≤ 9223372036854775807) (h2 : m ≤ 9223372036854775807) (k : Nat) (hk : f.tasks.length = k) (hne : ¬ (n = k ∧ m = k)) :
    Calls Tryd.prog 24 #[.agg #[.string (sb f.name), .int .i64 f.deadline, .int .i64 f.priority, .slice A f.tasks.length c], .agg #[.slice SA n sc, .slice FA m fc]] w fun e w' => e = .returned (.int .i64 2) ∧ Below w.heap.size w w' := by
  have HC := Lib.hid fun W (hW : Below w.heap.size w W) => check_all f A c W (h.below hW) (hT.below hW) hl hn
  rw [hx] at HC
  have hkm : k ≤ 9223372036854775807 := by rw [← hk]; exact h.lenI
  rw [hk] at HC ⊢
  clear hx h hT hl hn hk
  by_cases hnk : n = k
  · have hmk : ((m : Int) != (k : Int)) = true := by rw [bne_iff_ne]; omega
    subst hnk
    have hn1 : ((n : Int) != (n : Int)) = false := by simp
    clear hne
    go_enter Tryd.func24, Tryd.ntmps24
    go_wp2_with fail
    refine (HC.out _ (ba2 (b := 0) (Below.refl _ _))).mono ?_
    rintro e w1 ⟨rfl, hb1⟩
    have HB1 := Lib.hid (blw (ba2 (b := 0) (Below.refl w.heap.size w)) hb1)
    obtain ⟨s0, s1, s2, s3, s4, s5⟩ := keep6 hb1 (two_boxesG _ _ _ _ _ _ w)
    clear hb1 HC
    go_wp2
    go_ret
    exact ⟨rfl, HB1.out⟩
  · have hmk : ((n : Int) != (k : Int)) = true := by rw [bne_iff_ne]; omega
    clear hne hnk
    go_enter Tryd.func24, Tryd.ntmps24
    go_wp2_with fail
    refine (HC.out _ (ba2 (b := 0) (Below.refl _ _))).mono ?_
    rintro e w1 ⟨rfl, hb1⟩
    have HB1 := Lib.hid (blw (ba2 (b := 0) (Below.refl w.heap.size w)) hb1)
    obtain ⟨s0, s1, s2, s3, s4, s5⟩ := keep6 hb1 (two_boxesG _ _ _ _ _ _ w)
    clear hb1 HC
    go_wp2
    go_ret
    exact ⟨rfl, HB1.out⟩
theorem life_iff' {f : FlowD} (hf : FlwOK f) {S F : List Int} (hs : S.length = f.tasks.length) (hl : F.length = f.tasks.length) :
    LifeOK f.tasks S F ↔ (∀ v t, f.tasks[v]? = some t → alwB t (freeD S t.after) (atI S v) (atI F v) = true) ∧ (∀ v, v < f.tasks.length → (atI S v = 4 ↔ DeadP f.tasks S v)) ∧ (standL S [5] = [] ∨ standL S [0, 1] = []) := by
  have hdd : ∀ v t, f.tasks[v]? = some t → DeadP f.tasks S v → t.done = false := fun v t ht hd => by
    obtain ⟨t', ht', hd'⟩ := hd.task
    rw [ht] at ht'; injection ht' with e; subst e; exact hd'
  constructor
  · rintro ⟨_, _, h3, h4⟩
    exact ⟨fun v t ht => ((alw_ok (hf.retry t (List.mem_of_getElem? ht)).1 (hdd v t ht)).1 (h3 v t ht)).1, fun v hv => (h3 v _ (List.getElem?_eq_getElem hv)).dd, h4⟩
  · rintro ⟨h1, h2, h3⟩
    exact ⟨hs, hl, fun v t ht => (alw_ok (hf.retry t (List.mem_of_getElem? ht)).1 (hdd v t ht)).2 ⟨h1 v t ht, h2 v (List.getElem?_eq_some_iff.1 ht).1⟩, h3⟩
theorem ex_bool (P : Prop) : ∃ r : Bool, r = true ↔ P := by
  by_cases h : P
  · exact ⟨true, by simp [h]⟩
  · exact ⟨false, by simp [h]⟩
set_option maxHeartbeats 3200000 in
theorem chk_ok (f : FlowD) (A : Option Addr) (c : Nat) (w : World) (h : Tasks w A c f.tasks) (hT : Tb3 w) (hl : f.name.length ≤ 9000000000000000000) (hn : ∀ t ∈ f.tasks, t.name.length ≤ 9000000000000000000) (S F : List Int) (SA FA : Option Addr) (n sc m fc : Nat) (hL : Lif w SA n sc FA m fc S F) (hx : checkE f = 0) (hnn : S.length = f.tasks.length) (hmm : F.length = f.tasks.length) (r1 r2 r3 : Bool) (hr1 : r1 = true ↔ ∀ v t, f.tasks[v]? = some t → alwB t (freeD S t.after) (atI S v) (atI F v) = true) (hr2 : r2 = true ↔ ∀ v, v < f.tasks.length → (atI S v = 4 ↔ DeadP f.tasks S v)) (hr3 : r3 = true ↔ (standL S [5] = [] ∨ standL S [0, 1] = [])) :
    Calls Tryd.prog 24 #[.agg #[.string (sb f.name), .int .i64 f.deadline, .int .i64 f.priority, .slice A f.tasks.length c], .agg #[.slice SA n sc, .slice FA m fc]] w fun e w' => e = .returned (.int .i64 (if r1 = true ∧ r2 = true ∧ r3 = true then 0 else 2)) ∧ Below w.heap.size w w' := by
  have HC := Lib.hid fun W (hW : Below w.heap.size w W) => check_all f A c W (h.below hW) (hT.below hW) hl hn
  have hf := flw_ok hx
  have hln := hf.len
  have C1 := Lib.hid fun W (hW : Below w.heap.size w W) => areAllowed_any f hf A c W (h.below hW) S F SA FA n sc m fc (hL.below hW) hnn hmm r1 hr1
  have C2 := Lib.hid fun W (hW : Below w.heap.size w W) => areDead_any f hx A c W (h.below hW) (hT.below hW) S F SA FA n sc m fc (hL.below hW) hnn r2 hr2
  have C3 := Lib.hid fun W (hW : Below w.heap.size w W) => isWhole_any S F W SA FA n sc m fc (hL.below hW) (by have := hL.n; omega) r3 hr3
  rw [hx] at HC
  obtain ⟨k, hk⟩ : ∃ k, f.tasks.length = k := ⟨_, rfl⟩
  have hnk : n = k := by rw [← hL.n, hnn, hk]
  have hmk : m = k := by rw [← hL.m, hmm, hk]
  rw [hk] at hln
  rw [hk] at HC C1 C2 ⊢
  clear hx h hT hl hn hf hL hnn hmm hr1 hr2 hr3 hk
  subst hnk hmk
  have hn1 : ((m : Int) != (m : Int)) = false := by simp
  obtain ⟨z, hz⟩ : ∃ z : Int, (if r1 = true ∧ r2 = true ∧ r3 = true then 0 else 2) = z := ⟨_, rfl⟩
  rw [hz]
  have HZ := Lib.hid hz
  clear hz
  go_enter Tryd.func24, Tryd.ntmps24
  go_wp2_with fail
  refine (HC.out _ (ba2 (b := 0) (Below.refl _ _))).mono ?_
  rintro e w1 ⟨rfl, hb1⟩
  have HB1 := Lib.hid (blw (ba2 (b := 0) (Below.refl w.heap.size w)) hb1)
  have s1 := keep6 hb1 (two_boxesG _ _ _ _ _ _ w)
  clear hb1
  obtain ⟨p0, p1, p2, p3, p4, p5⟩ := s1
  go_wp2_with fail
  refine (C1.out _ HB1.out).mono ?_
  rintro e w2 ⟨rfl, hb2⟩
  have HB2 := Lib.hid (blw HB1.out hb2)
  have s2 := keep6 hb2 ⟨p0, p1, p2, p3, p4, p5⟩
  clear hb2 p0 p1 p2 p3 p4 p5
  obtain ⟨p0, p1, p2, p3, p4, p5⟩ := s2
  cases r1
  · have HZ := Lib.hid (show (2 : Int) = z by rw [← HZ.out, if_neg (by rintro ⟨h, _⟩; cases h)])
    go_wp2
    go_ret
    exact ⟨by rw [← HZ.out]; rfl, HB2.out⟩
  go_wp2_with fail
  refine (C2.out _ HB2.out).mono ?_
  rintro e w3 ⟨rfl, hb3⟩
  have HB3 := Lib.hid (blw HB2.out hb3)
  have s3 := keep6 hb3 ⟨p0, p1, p2, p3, p4, p5⟩
  clear hb3 p0 p1 p2 p3 p4 p5
  obtain ⟨p0, p1, p2, p3, p4, p5⟩ := s3
  cases r2
  · have HZ := Lib.hid (show (2 : Int) = z by rw [← HZ.out, if_neg (by rintro ⟨_, h, _⟩; cases h)])
    go_wp2
    go_ret
    exact ⟨by rw [← HZ.out]; rfl, HB3.out⟩
  go_wp2_with fail
  refine (C3.out _ HB3.out).mono ?_
  rintro e w4 ⟨rfl, hb4⟩
  have HB4 := Lib.hid (blw HB3.out hb4)
  clear hb4 p0 p1 p2 p3 p4 p5
  cases r3
  · have HZ := Lib.hid (show (2 : Int) = z by rw [← HZ.out, if_neg (by rintro ⟨_, _, h⟩; cases h)])
    go_wp2
    go_ret
    exact ⟨by rw [← HZ.out]; rfl, HB4.out⟩
  · have HZ := Lib.hid (show (0 : Int) = z by simpa using HZ.out)
    go_wp2
    go_ret
    exact ⟨by rw [← HZ.out]; rfl, HB4.out⟩
theorem check_any (f : FlowD) (A : Option Addr) (c : Nat) (w : World) (h : Tasks w A c f.tasks) (hT : Tb3 w) (hl : f.name.length ≤ 9000000000000000000) (hn : ∀ t ∈ f.tasks, t.name.length ≤ 9000000000000000000) (S F : List Int) (SA FA : Option Addr) (n sc m fc : Nat) (hL : Lif w SA n sc FA m fc S F) (b : Bool) (hb : b = true ↔ LifeOK f.tasks S F) :
    Calls Tryd.prog 24 #[.agg #[.string (sb f.name), .int .i64 f.deadline, .int .i64 f.priority, .slice A f.tasks.length c], .agg #[.slice SA n sc, .slice FA m fc]] w fun e w' => e = .returned (.int .i64 (lifeE f b)) ∧ Below w.heap.size w w' := by
  by_cases hx : checkE f = 0
  case neg =>
    rw [lifeE_bad hx]
    exact chk_bad f A c w h hT hl hn SA FA n sc m fc _ rfl hx
  by_cases hlen : n = f.tasks.length ∧ m = f.tasks.length
  case neg =>
    have : b = false := by
      cases b
      · rfl
      · have := hb.1 rfl
        exact absurd ⟨hL.n.symm.trans this.sl, hL.m.symm.trans this.fl⟩ hlen
    rw [this, lifeE_no hx]
    exact chk_len f A c w h hT hl hn SA FA n sc m fc hx (by rw [← hL.n]; exact ints_top hL.s) (by rw [← hL.m]; exact ints_top hL.f) _ rfl hlen
  have hnn : S.length = f.tasks.length := hL.n.trans hlen.1
  have hmm : F.length = f.tasks.length := hL.m.trans hlen.2
  obtain ⟨r1, hr1⟩ := ex_bool (∀ v t, f.tasks[v]? = some t → alwB t (freeD S t.after) (atI S v) (atI F v) = true)
  obtain ⟨r2, hr2⟩ := ex_bool (∀ v, v < f.tasks.length → (atI S v = 4 ↔ DeadP f.tasks S v))
  obtain ⟨r3, hr3⟩ := ex_bool (standL S [5] = [] ∨ standL S [0, 1] = [])
  have he : lifeE f b = if r1 = true ∧ r2 = true ∧ r3 = true then 0 else 2 := by
    have hiff : b = true ↔ r1 = true ∧ r2 = true ∧ r3 = true := by
      rw [hb, life_iff' (flw_ok hx) hnn hmm, hr1, hr2, hr3]
    unfold lifeE
    rw [if_pos hx]
    by_cases q : b = true
    · rw [if_pos q, if_pos (hiff.1 q)]
    · rw [if_neg q, if_neg (fun e => q (hiff.2 e))]
  rw [he]
  exact chk_ok f A c w h hT hl hn S F SA FA n sc m fc hL hx hnn hmm r1 r2 r3 hr1 hr2 hr3
end Go.Proofs.YtgejonmjmieglaaDoor.Lf

