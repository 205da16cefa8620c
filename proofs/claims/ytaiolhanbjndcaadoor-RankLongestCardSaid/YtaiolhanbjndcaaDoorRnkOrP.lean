/- Layer 7: the program's Order. -/
import Derived.Test.YtaiolhanbjndcaaDoorRnkOrQ
import Derived.Test.YtaiolhanbjndcaaDoorMSta
namespace Go.Proofs.YtaiolhanbjndcaaDoor
open Go.RowKit Go.Shelf Sri
open Dag (Ints Own1 OwnI Sl num num_len num_get Gr newE order behL order_ord RetOwn)
open Srt (fallL fall_all fall_sorted keyS keyS_fr Mix SrtOn)
set_option linter.unusedVariables false
set_option maxRecDepth 100000

theorem ints_grown {w1 w0 W : World} {A : Option Addr} {c g : Nat} {xs : List Int} (h : Ints w1 A c xs) (hb : Below w1.heap.size w1 w0) (hg : w1.heap.size ≤ g) (hW : w0.grownBy W (some g)) : Ints W A c xs := by
  refine ⟨fun k u hu => ?_, h.cap, h.top, h.nil⟩
  obtain ⟨b, off, e, hc⟩ := h.cells k u hu
  refine ⟨b, off, e, ?_⟩
  have hl := World.block_lt_of_cell? w1 _ hc
  rw [World.cell?_of_block (w := w1) (a := ⟨b, off + k, none⟩) ((hW.block b (Nat.lt_of_lt_of_le hl hb.size) (fun e => by injection e with e; have hl' : b < w1.heap.size := hl; omega)).trans (hb.block b hl))]
  exact hc
/-- nothing to sort -/
theorem ins0_any (A : Option Addr) (c : Nat) (V : Value) (w : World) : Calls Tryd.prog 53 #[.slice A 0 c, .int .i64 0, .int .i64 0, V] w fun e w' => e = .returned (.tuple #[]) ∧ w = w' := by
  go_enter Tryd.func53, Tryd.ntmps53
  go_wp2_with fail
  go_loopw [8] (fun vi wr => vi = .int .i64 1 ∧ wr = w) (fun _ _ => 0)
  case atStart => exact ⟨rfl, rfl⟩
  case round =>
    obtain ⟨rfl, rfl⟩ := hrel
    go_wp2
    go_end0
    exact ⟨rfl, rfl⟩
theorem sta0_any (A : Option Addr) (c : Nat) (V : Value) (w : World) : Calls Tryd.prog 39 #[.slice A 0 c, .int .i64 0, V] w fun e w' => e = .returned (.tuple #[]) ∧ w = w' := by
  have HI := Lib.hid fun W => ins0_any A c V W
  go_enter Tryd.func39, Tryd.ntmps39
  go_wp2
  go_loopw [7, 8] (fun va vb wr => va = .int .i64 0 ∧ vb = .int .i64 20 ∧ wr = w) (fun _ _ _ => 0)
  case atStart => exact ⟨rfl, rfl, rfl⟩
  case round =>
    obtain ⟨rfl, rfl, rfl⟩ := hrel
    go_wp2_with fail
    refine (HI.out _).mono ?_
    rintro e w1 ⟨rfl, rfl⟩
    go_wp2
    go_loopw [6] (fun vb wx => vb = .int .i64 20 ∧ wx = wr) (fun _ _ => 0)
    case atStart => exact ⟨rfl, rfl⟩
    case round =>
      obtain ⟨rfl, rfl⟩ := hrel
      go_wp2
      go_end0
      exact ⟨rfl, rfl⟩
theorem sort0_any (A : Option Addr) (c : Nat) (V : Value) (w : World) : Calls Tryd.prog 22 #[.slice A 0 c, V] w fun e w' => e = .returned (.tuple #[]) ∧ w = w' := by
  have HI := Lib.hid fun W => sta0_any A c V W
  go_enter Tryd.func22, Tryd.ntmps22
  go_wp2_with fail
  refine (HI.out _).mono ?_
  rintro e w1 ⟨rfl, rfl⟩
  go_wp2
  go_end0
  exact ⟨rfl, rfl⟩
/-- tasks by falling ranks, of one rank as they stand in the order -/
def orderV (f : FlowD) : List Int := if rankE f (upD f.tasks) = 0 then num (fallL (atL (rankV f (upD f.tasks))) (order (afterL f.tasks))) else []
set_option maxHeartbeats 3200000 in
theorem orderP_any (f : FlowD) (A : Option Addr) (c : Nat) (w : World) (h : FlA w f A c) :
    Calls Tryd.prog 9 #[.agg #[.string (sb f.name), .int .i64 f.deadline, .int .i64 f.priority, .slice A f.tasks.length c]] w fun e w' => ∃ B d, e = .returned (.tuple #[.slice B (orderV f).length d, .int .i64 (rankE f (upD f.tasks))]) ∧ Ints w' B d (orderV f) ∧ Below w.heap.size w w' := by
  have HR := Lib.hid fun W (hW : Below w.heap.size w W) => ranked_any f A c W (h.below hW)
  have hlen := h.len
  clear h
  unfold RetR at HR
  by_cases h0 : rankE f (upD f.tasks) = 0
  · obtain ⟨hf, hV, hWt⟩ := chk_facts (rank_yes h0).1
    have HF := Lib.hid hf
    have HEL := Lib.hid (afterL_len f.tasks)
    have hxn : (rankV f (upD f.tasks)).length = f.tasks.length := by unfold rankV numsU; rw [if_pos h0]; simp
    have hov : orderV f = num (fallL (atL (rankV f (upD f.tasks))) (order (afterL f.tasks))) := by unfold orderV; rw [if_pos h0]
    rw [hxn] at HR
    rw [h0]
    obtain ⟨xs, hxs⟩ : ∃ xs, rankV f (upD f.tasks) = xs := ⟨_, rfl⟩
    rw [hxs, h0] at HR
    rw [hxs] at hov hxn
    obtain ⟨P, hP⟩ : ∃ P, orderV f = P := ⟨_, rfl⟩
    rw [hP] at hov ⊢
    have hnd := (order_ord (afterL f.tasks)).nodup
    have hfa := fall_all (atL xs) (order (afterL f.tasks)) hnd
    have HPL : Hid (P.length = f.tasks.length) := Lib.hid (by rw [hov, num_len, hfa.1, hf])
    have HOV := Lib.hid hov; have HXN := Lib.hid hxn; have HND := Lib.hid hnd
    clear hxs hxn h0 hov hP hfa hnd
    go_enter Tryd.func9, Tryd.ntmps9
    go_wp2_with fail
    refine (HR.out _ (al w _)).mono ?_
    rintro e w1 ⟨p, B, d, rfl, hi, hb, hg, _⟩
    have HG := Lib.hid (hg (by first | rfl | trivial))
    have HB := Lib.hid (blw (al w _) hb)
    have HI := Lib.hid hi
    have hba : Below w1.heap.size w1 (w1.alloc (.cells #[.slice B f.tasks.length d] 27)) := al _ _
    have hcb : (w1.alloc (.cells #[.slice B f.tasks.length d] 27)).cell? ⟨w1.heap.size, 0, none⟩ = some (.slice B f.tasks.length d) := by simp
    have hsz : (w1.alloc (.cells #[.slice B f.tasks.length d] 27)).heap.size = w1.heap.size + 1 := by simp
    clear hi hb hg
    go_wp2_with fail
    generalize w1.alloc (.cells #[.slice B f.tasks.length d] 27) = wb at hba hcb hsz ⊢
    obtain ⟨ub, hub⟩ : ∃ ub, w1.heap.size = ub := ⟨_, rfl⟩
    rw [hub] at hcb hsz ⊢
    have HG2 := Lib.hid (HG.out.below hba); have HI2 := Lib.hid (HI.out.below hba); have HB2 := Lib.hid (blw HB.out hba); have HX2 := Lib.hid hcb; have HWBX : Hid (w.heap.size ≤ wb.heap.size) := Lib.hid HB2.out.size; have HUB : Hid (ub < wb.heap.size) := Lib.hid (by omega)
    clear hba HG HI HB hub hcb hsz
    refine (Dag.order_own wb (afterL f.tasks) (.pointer p) HG2.out (by rw [HEL.out]; exact hlen)).mono ?_
    rintro e w2 ⟨Ao, co, rfl, ho2, hb2⟩
    rw [HEL.out] at ho2 ⊢
    have HO2 := Lib.hid ho2; have HB3 := Lib.hid (blw HB2.out hb2); have HBB := Lib.hid hb2
    clear ho2 hb2 HG2 HB2
    by_cases hn0 : f.tasks.length = 0
    · have HP0 : Hid (P = []) := Lib.hid (List.eq_nil_of_length_eq_zero (by rw [HPL.out]; exact hn0))
      have HI3 := Lib.hid (Dag.OwnI.ints' HO2.out)
      have HLN : Hid (num (order (afterL f.tasks)) = []) := Lib.hid (List.eq_nil_of_length_eq_zero (by rw [num_len, HF.out]; exact hn0))
      rw [hn0]
      rw [HLN.out] at HI3
      clear hn0
      go_wp2_with fail
      refine (sort0_any Ao co _ w2).mono ?_
      rintro e w3 ⟨rfl, rfl⟩
      go_wp2
      go_ret2
      exact ⟨Ao, co, by rw [HP0.out]; rfl, by rw [HP0.out]; exact HI3.out.2, HB3.out⟩
    · have hX := keyS_fr (atL xs) (order (afterL f.tasks))
      have hokX : ∀ s ∈ (order (afterL f.tasks)).map (keyS (atL xs)), ordOk xs s := fun s hs => by
        obtain ⟨v, hv, rfl⟩ := List.mem_map.1 hs
        have hvl := (ord_all HF.out v).1 hv
        obtain ⟨y, hy⟩ : ∃ y, xs[v]? = some y := ⟨_, List.getElem?_eq_getElem (by rw [HXN.out]; exact hvl)⟩
        exact ⟨v, rfl, by show _ = some (- -(atL xs v)); rw [atL_some hy, hy, Int.neg_neg]⟩
      obtain ⟨g, rfl, hgb, hgn, hrow⟩ := RowI.of_own (ok := ordOk xs) HO2.out (by rw [num_len, HF.out]; omega) hX hokX
      have hcc : CmpC (ordOk xs) ub w2 g := fun W s u hW hs hu => ordc_any xs f.tasks.length HXN.out ub B d s u hs hu W (ints_grown HI2.out HBB.out hgb hW) (by
        rw [World.cell?_of_block (w := w2) (a := ⟨ub, 0, none⟩) (hW.block ub (Nat.lt_of_lt_of_le HUB.out HBB.out.size) (fun e => by injection e with e; have := HUB.out; omega))]
        exact kp_cell HBB.out HX2.out)
      have hsf := sortF_any g co f.tasks.length _ hgn.symm (by omega) (ordOk xs) ub w2 hcc w2 hrow (grown_refl _ _)
      have HSF := Lib.hid hsf; have HGB := Lib.hid (Nat.le_trans HB3.out.size (Nat.le_refl _)); have HGG := Lib.hid hgb
      have HWB : Hid (w.heap.size ≤ wb.heap.size) := HWBX
      clear hX hokX hgb hgn hrow hcc hsf
      go_wp2_with fail
      refine HSF.out.mono ?_
      rintro e w3 ⟨rfl, hg3, Y, hY, hm, hs⟩
      have hYe := fall_sorted (atL xs) _ HND.out (n := f.tasks.length) HF.out hm hs
      have HI3 := hY.ints
      rw [hYe, keyS_fr, ← HOV.out] at HI3
      have HI4 := Lib.hid HI3
      have HG3 := Lib.hid hg3
      clear hYe HI3 hY hm hs hg3
      go_wp2
      go_ret2
      exact ⟨some ⟨g, 0, none⟩, co, by rw [HPL.out]; rfl, HI4.out, HB3.out.grown HG3.out HB3.out.size (fun k e => by injection e with e; subst e; exact Nat.le_trans HWB.out HGG.out)⟩
  · have hv : rankV f (upD f.tasks) = [] := by unfold rankV; rw [if_neg h0]
    have HP0 : Hid (orderV f = []) := Lib.hid (by unfold orderV; rw [if_neg h0])
    have H0 := Lib.hid h0
    obtain ⟨e0, he0⟩ : ∃ e0, rankE f (upD f.tasks) = e0 := ⟨_, rfl⟩
    rw [hv, he0] at HR
    rw [he0] at H0 ⊢
    have hne : (e0 != 0) = true := by simpa using H0.out
    clear hv he0 h0
    rw [HP0.out]
    simp only [List.length_nil] at HR
    go_enter Tryd.func9, Tryd.ntmps9
    go_wp2_with fail
    refine (HR.out _ (al w _)).mono ?_
    rintro e w1 ⟨p, B, d, rfl, hi, hb, _, hp⟩
    have HB := Lib.hid (blw (al w _) hb)
    clear hi hb hp
    go_wp2
    go_ret2
    exact ⟨none, 0, rfl, Sl.empty _, blw HB.out (al _ _)⟩
end Go.Proofs.YtaiolhanbjndcaaDoor

