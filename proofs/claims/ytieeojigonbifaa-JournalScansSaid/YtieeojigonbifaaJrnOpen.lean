/- Open, Records, Tear over a journal in memory; the document's Frames; long. -/
import Derived.Test.YtieeojigonbifaaJrnScanAt
namespace Go.Proofs.Ytieeojigonbifaa
open Go.RowKit
set_option linter.unusedVariables false

set_option maxHeartbeats 800000 in
theorem long_at (R : Nat → Prop) (A : Option Addr) (c n : Nat) (ls : List (List Int)) (w : World) (h : Rws w R A c ls) (hn : ls.length = n) (hb : sz ls ≤ 9000000000000000000) (q : Bool) (hq : decide (2000 < sz ls) = q) :
    Calls Try.prog 23 #[.slice A n c] w fun e w' => e = .returned (.bool q) ∧ w = w' := by
  subst hn
  have hl : ls.length ≤ 9223372036854775807 := Nat.le_trans h.cap h.top
  have H := Lib.hid h; clear h
  have HB := Lib.hid hb; clear hb
  have HQ := Lib.hid hq; clear hq
  go_enter Try.func23, Try.ntmps23
  go_wp2
  go_loop [3, 4] (fun a i => ∃ (k : Nat) (v : Int), k ≤ ls.length ∧ i = .int .i64 k ∧ a = .int .i64 v ∧ 0 ≤ v ∧ v ≤ 9000000000000000000 ∧ Hid (v = (sz (ls.take k) : Int))) (fun _ i => ls.length - (intOf i).toNat)
  case atStart => exact ⟨0, 0, Nat.zero_le _, rfl, rfl, by omega, by omega, Lib.hid (by simp [sz])⟩
  case round =>
    obtain ⟨k, v, hk, rfl, rfl, hv0, hv1, hv⟩ := hrel
    by_cases hlt : k < ls.length
    · obtain ⟨b, off, A', c', x, rfl, _, hx, hc, hB⟩ := H.out.at_ hlt
      have HX := Lib.hid hx; clear hx
      have e1 : v + 8 + (x.length : Int) = (sz (ls.take (k + 1)) : Int) := by rw [take_snoc_r HX.out, sz_snoc]; have := hv.out; omega
      have e2 : sz (ls.take (k + 1)) ≤ sz ls := by
        have := sz_app (ls.take (k + 1)) (ls.drop (k + 1))
        rw [List.take_append_drop] at this; omega
      have e3 : v + 8 + (x.length : Int) ≤ 9000000000000000000 := by have := HB.out; omega
      have E1 := Lib.hid e1; clear e1 e2
      clear hB
      go_wp2
      go_round
      case rel => exact ⟨k + 1, v + 8 + (x.length : Int), by omega, by go_num, by go_num, by omega, by omega, Lib.hid E1.out⟩
      case measure => simp [intOf]; omega
    · have e1 : Hid (v = (sz ls : Int)) := Lib.hid (by have := hv.out; rwa [List.take_of_length_le (by omega)] at this)
      go_wp2
      go_ret
      exact ⟨ret_bool (by rw [← HQ.out, e1.out]; simp; omega), rfl⟩

set_option maxHeartbeats 1000000 in
theorem rframes_any (R : Nat → Prop) (A : Option Addr) (c n : Nat) (ls : List (List Int)) (w : World) (h : Rws w R A c ls) (hn : ls.length = n) (hrec : Recs ls) (hmax : sz ls ≤ 4194304) :
    Calls Try.prog 26 #[.slice A n c] w (RetB w (frames ls)) := by
  subst hn
  have hl : ls.length ≤ 9223372036854775807 := Nat.le_trans h.cap h.top
  have H := Lib.hid h; clear h
  have HREC := Lib.hid hrec; clear hrec
  have HMAX := Lib.hid hmax; clear hmax
  go_enter Try.func26, Try.ntmps26
  go_wp2
  go_loopw [3, 4] (fun f i wr => ∃ (k : Nat) (l : List Int) (A1 : Option Addr) (c1 : Nat), k ≤ ls.length ∧ i = .int .i64 k ∧ f = .slice A1 l.length c1 ∧ l.length ≤ 4194304 ∧ Hid (l = frames (ls.take k)) ∧ Hid (OwnB wr w.heap.size (.slice A1 l.length c1) l) ∧ Hid (Below w.heap.size w wr)) (fun _ i _ => ls.length - (intOf i).toNat)
  case atStart => exact ⟨0, [], none, 0, Nat.zero_le _, rfl, rfl, by simp, Lib.hid (by simp [frames]), Lib.hid (OwnB.nil _ _), Lib.hid (Below.refl _ _)⟩
  case round =>
    obtain ⟨k, l, A1, c1, hk, rfl, rfl, hl1, EL, HO, HW⟩ := hrel
    by_cases hlt : k < ls.length
    · obtain ⟨b, off, A', c', x, rfl, _, hx, hc, hB⟩ := (H.out.below HW.out).at_ hlt
      have hx2 := (HREC.out x (List.mem_of_getElem? hx)).2
      have hroom : l.length + (8 + x.length) ≤ 4194304 := by
        have e1 : sz (ls.take (k + 1)) ≤ sz ls := by
          have := sz_app (ls.take (k + 1)) (ls.drop (k + 1))
          rw [List.take_append_drop] at this; omega
        rw [take_snoc_r hx, sz_snoc] at e1
        have e2 : l.length = sz (ls.take k) := by rw [EL.out, frames_len]
        have := HMAX.out
        omega
      have HX := Lib.hid hx; clear hx
      have HB := Lib.hid hB; clear hB
      obtain ⟨fr, efr⟩ : ∃ fr, fr = frame x := ⟨_, rfl⟩
      have hfr : fr.length ≤ 8 + x.length := by rw [efr, frame_len]; omega
      have EFR := Lib.hid efr; clear efr
      go_wp2_with fail
      refine (rframe_any _ _ _ _ x _ HB.out rfl hx2).mono ?_
      rw [← EFR.out]
      rintro e w1 ⟨A2, c2, rfl, ho, hw⟩
      have HO2 := Lib.hid ho; clear ho
      go_wp2_with (at_builtin; refine wpList_appb rfl _ _ rfl w.heap.size (.slice A1 l.length c1) l rfl (HO.out.below hw) A2 c2 fr.length (fun _ => True) fr rfl rfl (byts_of HO2.out) (by omega) (by have := HW.out.size; have := hw.size; omega) ?_; intro l3 A3 c3 w3 el3 ho3 hg3 hb3 hw3; have EL3 := Lib.hid el3; clear el3)
      go_roundw
      case rel =>
        refine ⟨k + 1, l3, A3, c3, by omega, by go_num, rfl, by rw [EL3.out, List.length_append]; omega, Lib.hid ?_, Lib.hid ho3, Lib.hid ((blw HW.out hw).trans hw3)⟩
        rw [EL3.out, EL.out, EFR.out, take_snoc_r HX.out, frames_snoc]
      case measure => simp [intOf]; omega
    · go_wp2
      go_ret
      obtain rfl : l = frames ls := by rw [EL.out, List.take_of_length_le (by omega)]
      exact ⟨_, _, rfl, HO.out, HW.out⟩

/-- what Open hands back -/
def RetO (w : World) (xs : List Int) (n : Nat) (m ev : Int) (e : Ending) (w' : World) : Prop :=
  ∃ g v, e = .returned (.tuple #[.pointer (some ⟨g, 0, none⟩), .int .i64 m, .int .i64 ev]) ∧ Jrn w' w.heap.size g v xs n ∧ Below w.heap.size w w'
theorem scan_le {xs : List Int} {ls : List (List Int)} {at_ : Nat} {ev : Int} (hb : Bts xs) (hs : scan xs = (ls, at_, ev)) : at_ ≤ xs.length ∧ Recs ls ∧ frames ls = xs.take at_ ∧ sz ls = at_ := by
  obtain ⟨h1, h2, h3⟩ := scan_is xs.length xs (Nat.le_refl _) hb
  rw [hs] at h1 h2 h3
  refine ⟨h3, h1, h2, ?_⟩
  have h3 : at_ ≤ xs.length := h3
  rw [← frames_len, h2, List.length_take]; simp only; omega
theorem open_end {w w1 w2 : World} {x1 : List Int} {A : Option Addr} {c n : Nat} {m q ev : Int} (ho : OwnB w2 w1.heap.size (.slice A x1.length c) x1) (h1 : w.heap.size ≤ w1.heap.size) (hw : Below w.heap.size w w2) (hq : q = m) :
    RetO w x1 n m ev (.returned (.tuple #[.pointer (some ⟨w2.heap.size, 0, none⟩), .int .i64 q, .int .i64 ev])) (w2.alloc (.cells #[.slice A x1.length c, .int .i64 n] 61)) := by
  subst hq
  exact ⟨_, _, rfl, ⟨heap_alloc_new _ _, hw.size, (ho.alloc _).base h1⟩, hw.alloc hw.size _⟩
set_option maxHeartbeats 1000000 in
theorem open_any (R : Nat → Prop) (A : Option Addr) (c n : Nat) (xs : List Int) (w : World) (ls : List (List Int)) (at_ : Nat) (ev m : Int) (h : Byts w R A c xs) (hn : xs.length = n) (hl : n ≤ 4194304) (hs : scan xs = (ls, at_, ev)) (hm : (n : Int) - (at_ : Int) = m) :
    Calls Try.prog 18 #[.slice A n c] w (RetO w (xs.take at_) ls.length m ev) := by
  subst hn
  have hat := (scan_le h.bts hs).1
  have hcap := h.cap
  have q1 := run_cut_h A xs.length c at_ .i64 (at_ : Int) rfl (by omega)
  have H := Lib.hid h; clear h
  have HS := Lib.hid hs; clear hs
  have HM := Lib.hid hm; clear hm
  obtain ⟨x1, hx1⟩ : ∃ x1, xs.take at_ = x1 := ⟨_, rfl⟩
  have hx1l : x1.length = at_ := by rw [← hx1, List.length_take]; omega
  have HB1 : Hid (Byts w R A c x1) := Lib.hid (by rw [← hx1]; exact H.out.take _)
  rw [hx1]
  clear hx1
  have HL1 := Lib.hid hx1l; clear hx1l
  go_enter Try.func18, Try.ntmps18
  go_wp2_with fail
  refine (scan_at _ _ _ _ xs _ ls at_ ev H.out rfl hl HS.out).mono ?_
  rintro e w1 ⟨A1, c1, rfl, ho1, hw1⟩
  clear ho1
  go_wp2_with fail
  refine (clone_any _ _ _ x1 _ _ (HB1.out.below hw1) HL1.out (by omega)).mono ?_
  rintro e w2 ⟨A2, c2, rfl, ho2, hw2⟩
  have hw02 := blw hw1 hw2
  have HO2 := Lib.hid ho2; clear ho2
  go_wp2
  go_ret3
  exact open_end (w2 := w2) HO2.out hw1.size hw02 HM.out

def RetR (w : World) (ls : List (List Int)) (e : Ending) (w' : World) : Prop :=
  ∃ A c, e = .returned (.slice A ls.length c) ∧ OwnR w' w.heap.size (fun b => w.heap.size ≤ b) (.slice A ls.length c) ls ∧ Below w.heap.size w w'
theorem records_any (w : World) (base g : Nat) (v : Value) (xs : List Int) (cnt : Nat) (ls : List (List Int)) (at_ : Nat) (ev : Int) (h : Jrn w base g v xs cnt) (hl : xs.length ≤ 4194304) (hs : scan xs = (ls, at_, ev)) :
    Calls Try.prog 20 #[.pointer (some ⟨g, 0, none⟩)] w (RetR w ls) := by
  obtain ⟨A, c, rfl, hB⟩ := h.own.byts
  have h1 := blk_cell h.blk 0
  simp only [show (#[Value.slice A xs.length c, Value.int .i64 (cnt : Int)] : Array Value)[0]? = some (.slice A xs.length c) from rfl] at h1
  clear h
  have HB := Lib.hid hB; clear hB
  have HS := Lib.hid hs; clear hs
  go_enter Try.func20, Try.ntmps20
  go_wp2_with fail
  refine (scan_at _ _ _ _ xs _ ls at_ ev HB.out rfl hl HS.out).mono ?_
  rintro e w' ⟨A', c', rfl, ho, hw⟩
  have HO := Lib.hid ho; clear ho
  go_wp2
  go_ret
  exact ⟨A', c', rfl, HO.out, hw⟩

theorem tear_no (w : World) (base g : Nat) (v : Value) (xs : List Int) (cnt : Nat) (m : Int) (h : Jrn w base g v xs cnt) (hl : xs.length ≤ 4194304) (hm : (xs.length : Int) < m) :
    Calls Try.prog 27 #[.pointer (some ⟨g, 0, none⟩), .int .i64 m] w fun e w' => e = .returned (.int .i64 2) ∧ w = w' := by
  obtain ⟨A, c, rfl⟩ := h.slice
  have h1 := blk_cell h.blk 0
  simp only [show (#[Value.slice A xs.length c, Value.int .i64 (cnt : Int)] : Array Value)[0]? = some (.slice A xs.length c) from rfl] at h1
  clear h
  go_enter Try.func27, Try.ntmps27
  go_wp2
  go_ret
  exact ⟨rfl, rfl⟩

/-- what Tear leaves -/
def RetT (w : World) (base g : Nat) (xs : List Int) (cnt : Nat) (e : Ending) (w' : World) : Prop :=
  ∃ v', e = .returned (.int .i64 0) ∧ Jrn w' base g v' xs cnt ∧ (∀ k, v'.ownBlock = some k → w.heap.size ≤ k) ∧ Chg (fun b => b = g) w w'
set_option maxHeartbeats 1000000 in
theorem tear_any (w : World) (base g : Nat) (v : Value) (xs : List Int) (cnt m r : Nat) (ls : List (List Int)) (at_ : Nat) (ev : Int) (h : Jrn w base g v xs cnt) (hl : xs.length ≤ 4194304) (hr : r + m = xs.length) (hs : scan (xs.take r) = (ls, at_, ev)) (hb : base ≤ w.heap.size) :
    Calls Try.prog 27 #[.pointer (some ⟨g, 0, none⟩), .int .i64 m] w (RetT w base g ((xs.take r).take at_) ls.length) := by
  obtain ⟨A, c, rfl, hB⟩ := h.own.byts
  have h1 := blk_cell h.blk 0
  have z0 := blk_frozen h.blk 0
  have z1 := blk_frozen h.blk 1
  simp only [show (#[Value.slice A xs.length c, Value.int .i64 (cnt : Int)] : Array Value)[0]? = some (.slice A xs.length c) from rfl] at h1
  have hcap := hB.cap
  have q1 := run_cut_h A xs.length c r .i64 (r : Int) rfl (by omega)
  have hwr : IntKind.i64.wrap ((xs.length : Int) - (m : Int)) = (r : Int) := by rw [show (xs.length : Int) - (m : Int) = (r : Int) from by omega]; rw [IntKind.wrap_i64]; omega
  have HR := Lib.hid hr
  have HJ := Lib.hid h; clear h
  have HB : Hid (Byts w _ A c (xs.take r) ∧ (xs.take r).length = r) := Lib.hid ⟨hB.take r, by rw [List.length_take]; omega⟩
  clear hB
  have HS := Lib.hid hs; clear hs
  go_enter Try.func27, Try.ntmps27
  obtain ⟨y, hy⟩ : ∃ y, (xs.take r).take at_ = y := ⟨_, rfl⟩
  rw [hy]
  have HOP : Hid (∀ W : World, Byts W (fun b => base ≤ b ∧ (Value.slice A xs.length c).ownBlock = some b) A c (xs.take r) → Calls Try.prog 18 #[.slice A r c] W (RetO W y ls.length ((r : Int) - (at_ : Int)) ev)) := Lib.hid fun W hW => by
    have := open_any _ A c r (xs.take r) W ls at_ ev _ hW HB.out.2 (by omega) HS.out rfl
    rw [hy] at this
    exact this
  clear hy
  have h1d : w.drew.cell? ⟨g, 0, none⟩ = some (.slice A xs.length c) := h1
  go_wp2_with fail
  go_region_with (first | (go_at_call 18; refine (HOP.out _ ?_).mono ?_; exact HB.out.1.keep (fun _ _ _ => rfl); rintro e w1 ⟨g1, v1, rfl, hj1, hw1⟩; obtain ⟨A1, c1, rfl⟩ := hj1.slice))
  all_goals have c0 := blk_cell hj1.blk 0
  all_goals have c01 := blk_cell hj1.blk 1
  all_goals simp only [show (#[Value.slice A1 y.length c1, Value.int .i64 (ls.length : Int)] : Array Value)[0]? = some (Value.slice A1 y.length c1) from rfl] at c0
  all_goals simp only [show (#[Value.slice A1 y.length c1, Value.int .i64 (ls.length : Int)] : Array Value)[1]? = some (.int .i64 ls.length) from rfl] at c01
  all_goals have HGB : Hid (w1.heap[g]? = some (.cells #[.slice A xs.length c, .int .i64 (cnt : Int)] 61 (0, 0))) := Lib.hid (by rw [hw1.block g (blk_lt HJ.out.blk)]; exact HJ.out.blk)
  all_goals have y0 := blk_frozen HGB.out 0
  all_goals have y1 := blk_frozen HGB.out 1
  all_goals have d0 := blk_cell HGB.out 0
  all_goals have d1 := blk_cell HGB.out 1
  all_goals simp only [show (#[Value.slice A xs.length c, Value.int .i64 (cnt : Int)] : Array Value)[0]? = some (.slice A xs.length c) from rfl] at d0
  all_goals simp only [show (#[Value.slice A xs.length c, Value.int .i64 (cnt : Int)] : Array Value)[1]? = some (.int .i64 cnt) from rfl] at d1
  all_goals have HJ1 := Lib.hid hj1
  all_goals clear hj1
  all_goals go_wp2
  all_goals go_ret
  all_goals exact ⟨.slice A1 y.length c1, rfl, jrn_store HGB.out HJ.out.low (HJ1.out.own.base hb) rfl, fun k e => (HJ1.out.own.1.lt k e).1, Chg.setCell (p := ⟨g, 1, none⟩) (Chg.setCell (p := ⟨g, 0, none⟩) (Chg.of_below (S := fun b => b = g) ((Below.refl w.heap.size w).drew.trans hw1)) (fun _ => rfl) _) (fun _ => rfl) _⟩

end Go.Proofs.Ytieeojigonbifaa
