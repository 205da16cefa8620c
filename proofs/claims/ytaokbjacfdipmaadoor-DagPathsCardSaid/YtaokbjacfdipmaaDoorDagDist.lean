/- distances. -/
import Derived.Test.YtaokbjacfdipmaaDoorDagRep
namespace Go.Proofs.YtaokbjacfdipmaaDoor
open Go.RowKit
set_option linter.unusedVariables false

theorem neg_no (x : Nat) : decide ((x : Int) < 0) = false := by simp
theorem ints_set' (xs : List Int) (k : Nat) (x : Int) : (ints xs).set k (.int .i64 x) = ints (xs.set k x) := by simp [ints, List.map_set]
def RetD (w : World) (E : List (List Int)) (x : Nat) (e : Ending) (w' : World) : Prop :=
  ∃ (F : List Int) (g : Nat), F.length = E.length ∧ e = .returned (.slice (some ⟨g, 0, none⟩) E.length E.length) ∧ w.heap.size ≤ g ∧ OwnI w' g (.slice (some ⟨g, 0, none⟩) E.length E.length) F ∧ (∀ u, u < E.length → ∃ z, F[u]? = some z ∧ Dst E x u z) ∧ Below w.heap.size w w'

set_option maxRecDepth 100000 in
set_option maxHeartbeats 3200000 in
theorem dist_any (E : List (List Int)) (hf : (order E).length = E.length) (hE : Valid E) (hn : E.length ≤ 30) (x : Nat) (hx : x < E.length) (w : World) (A : Option Addr) (c : Nat) (h : IRows w A c (fro E)) :
    Calls Tryd.prog 42 #[.slice A E.length c, .int .i64 (x : Int)] w (RetD w E x) := by
  have H := Lib.hid h; have HF := Lib.hid hf; have HE := Lib.hid hE
  clear h hf hE
  go_enter Tryd.func42, Tryd.ntmps42
  go_wp2_with fail
  refine (rep_any E.length (by omega) hn _ _ (Ints.lit w [-1] rfl rfl (by simp))).mono ?_
  rintro e w1 ⟨rfl, ho1, hb1⟩
  obtain ⟨g, hg⟩ : ∃ g, (w.alloc (.cells (ints [-1]).toArray 3)).heap.size = g := ⟨_, rfl⟩
  have HB1 := Lib.hid (blw (al w (.cells (ints [-1]).toArray 3)) hb1)
  rw [hg] at ho1 ⊢
  have hgw : w.heap.size < g := by rw [← hg]; simp
  obtain ⟨gx, egx, _, hgl, ccx, fcx, _, hsetx⟩ := Own1.at_ ho1 (ints_get (k := x) (x := -1) (by rw [List.getElem?_replicate, if_pos hx]))
  injection egx with egx
  injection egx with egx
  subst egx
  have hs := hsetx (.int .i64 0)
  rw [ints_set', far_zero hx] at hs
  have HS := Lib.hid hs
  have HB2 := Lib.hid (HB1.out.setCell (p := ⟨g, x, none⟩) (by show w.heap.size ≤ g; omega) (.int .i64 0))
  clear hs hsetx ho1 hb1 hg HB1
  go_wp2_with fail
  have HLO : Hid (OwnI ((w1.setCell ⟨g, x, none⟩ (.int .i64 0)).alloc (.cells #[.int .i64 (x : Int)] 3)) (g + 1) (.slice (some ⟨w1.heap.size, 0, none⟩) 1 1) (num [x])) := Lib.hid (Own1.litm (w1.setCell ⟨g, x, none⟩ (.int .i64 0)) (g + 1) 3 (by simp [World.setCell]; omega) (ints [(x : Int)]) rfl (by simp [World.setCell]) (by simp [maxLen]))
  have HFO : Hid (OwnI ((w1.setCell ⟨g, x, none⟩ (.int .i64 0)).alloc (.cells #[.int .i64 (x : Int)] 3)) g (.slice (some ⟨g, 0, none⟩) E.length E.length) (farL E.length [x] fun _ => 0)) := Lib.hid (Own1.below HS.out (al _ _))
  have HB3 := Lib.hid (blw HB2.out (al (w1.setCell ⟨g, x, none⟩ (.int .i64 0)) (.cells #[.int .i64 (x : Int)] 3)))
  generalize (w1.setCell ⟨g, x, none⟩ (.int .i64 0)).alloc (.cells #[.int .i64 (x : Int)] 3) = W3 at HLO HFO HB3 ⊢
  clear HS HB2 ccx fcx
  go_loopw [6, 7] (fun lv iv wr => ∃ (ls : List Nat) (d : Nat → Nat) (i : Nat) (Al : Option Addr) (cl : Nat), i ≤ ls.length ∧ ls.length ≤ E.length ∧ iv = .int .i64 i ∧ lv = .slice Al ls.length cl ∧ Hid (Bfs E x ls d i 0 ∧ d x = 0) ∧ Hid (OwnI wr (g + 1) (.slice Al ls.length cl) (num ls)) ∧ Hid (OwnI wr g (.slice (some ⟨g, 0, none⟩) E.length E.length) (farL E.length ls d)) ∧ Hid (Below w.heap.size w wr)) (fun _ iv _ => E.length - (intOf iv).toNat)
  case atStart => exact ⟨[x], fun _ => 0, 0, _, _, Nat.zero_le _, by simp; omega, rfl, rfl, Lib.hid ⟨Bfs.zero hx, rfl⟩, HLO, HFO, HB3⟩
  case round =>
    clear HLO HFO HB3
    obtain ⟨ls, d, i, Al, cl, hi, hll, rfl, rfl, HBF, HL, HFO, HB⟩ := hrel
    by_cases hil : i < ls.length
    · obtain ⟨u, hu⟩ : ∃ u, ls[i]? = some u := ⟨_, List.getElem?_eq_getElem hil⟩
      have hul := HBF.out.1.lt u (List.mem_of_getElem? hu)
      obtain ⟨gl, egl, _, _, ccl, _⟩ := Own1.at_ HL.out (ints_get (k := i) (x := (u : Int)) (by rw [num_get, hu]; rfl))
      subst egl
      obtain ⟨b2, off2, Ar, cr, rfl, hcr0, hir⟩ := H.out.cells u _ (fro_get hul)
      have hcr := (HB.out.cell (p := ⟨b2, off2 + u, none⟩) (World.block_lt_of_cell? w _ hcr0)).trans hcr0
      obtain ⟨B, hB⟩ : ∃ B, befL E u = B := ⟨_, rfl⟩
      have hBl : B.length ≤ 30 := by rw [← hB]; exact Nat.le_trans (nodup_len (bef_nodup E u) fun u hu => (bef_mem.1 hu).1) hn
      rw [hB] at hcr hir
      rw [num_len] at hcr
      have HU := Lib.hid hu; have HIR := Lib.hid hir; have HBE := Lib.hid hB
      clear hu hir hB hcr0
      go_wp2_with fail
      clear ccl hcr
      go_loopw [6, 35] (fun lv jv wr => ∃ (ls : List Nat) (d : Nat → Nat) (j : Nat) (Al : Option Addr) (cl : Nat), j ≤ B.length ∧ i < ls.length ∧ ls.length ≤ E.length ∧ jv = .int .i64 j ∧ lv = .slice Al ls.length cl ∧ Hid (Bfs E x ls d i j ∧ d x = 0 ∧ ls[i]? = some u) ∧ Hid (OwnI wr (g + 1) (.slice Al ls.length cl) (num ls)) ∧ Hid (OwnI wr g (.slice (some ⟨g, 0, none⟩) E.length E.length) (farL E.length ls d)) ∧ Hid (Below w.heap.size w wr)) (fun _ jv _ => B.length - (intOf jv).toNat)
      case atStart => exact ⟨ls, d, 0, _, _, Nat.zero_le _, hil, hll, rfl, rfl, Lib.hid ⟨HBF.out.1, HBF.out.2, HU.out⟩, HL, HFO, HB⟩
      case round =>
        clear HBF HL HFO HB HU hil hi hll
        obtain ⟨ls, d, j, Al, cl, hj, hil, hll, rfl, rfl, HBF, HL, HFO, HB⟩ := hrel
        by_cases hjl : j < B.length
        · obtain ⟨y, hy⟩ : ∃ y, B[j]? = some y := ⟨_, List.getElem?_eq_getElem hjl⟩
          have hyl := (bef_mem.1 (by rw [HBE.out]; exact List.mem_of_getElem? hy : y ∈ befL E u)).1
          obtain ⟨b4, off4, z, rfl, hz, hcz0⟩ := HIR.out.at_ (k := j) (by rw [num_len]; exact hjl)
          have hcz := (HB.out.cell (p := ⟨b4, off4 + j, none⟩) (World.block_lt_of_cell? w _ hcz0)).trans hcz0
          rw [num_get, hy] at hz
          injection hz with hz
          subst hz
          have hyB : (befL E u)[j]? = some y := by rw [HBE.out]; exact hy
          by_cases hin : y ∈ ls
          · obtain ⟨gy, egy, _, _, ccy, _⟩ := Own1.at_ HFO.out (ints_get (far_in (d := d) hyl hin))
            injection egy with egy
            injection egy with egy
            subst egy
            have HBF' : Hid (Bfs E x ls d i (j + 1) ∧ d x = 0 ∧ ls[i]? = some u) := Lib.hid ⟨HBF.out.1.old HBF.out.2.2 hyB hin, HBF.out.2⟩
            generalize d y = dy at ccy
            have hd1 := neg_no dy
            clear hin hyB hcz0 hy
            go_wp2_with fail
            go_roundw
            case rel => exact ⟨ls, d, j + 1, Al, cl, by omega, hil, hll, by go_num, rfl, HBF', HL, HFO, HB⟩
            case measure => simp [intOf]; omega
          · obtain ⟨gy, egy, _, _, ccy, fcy, _, hsety⟩ := Own1.at_ HFO.out (ints_get (far_out (d := d) hyl hin))
            injection egy with egy
            injection egy with egy
            subst egy
            have hum : u ∈ ls := List.mem_of_getElem? HBF.out.2.2
            obtain ⟨gu, egu, _, _, ccu, _⟩ := Own1.at_ HFO.out (ints_get (far_in (d := d) hul hum))
            injection egu with egu
            injection egu with egu
            subst egu
            have hdu : d u < E.length := can_short HF.out HE.out hx (HBF.out.1.way u hum)
            have hs := hsety (.int .i64 ((d u : Int) + 1))
            rw [ints_set', far_new hyl] at hs
            have hbf := HBF.out.1.new HE.out HBF.out.2.2 hyB hin
            have HBF' : Hid (Bfs E x (ls ++ [y]) (upd d y (d u + 1)) i (j + 1) ∧ upd d y (d u + 1) x = 0 ∧ (ls ++ [y])[i]? = some u) := Lib.hid ⟨hbf, by rw [upd_ne (fun e => hin (by rw [← e]; exact HBF.out.1.start))]; exact HBF.out.2.1, by rw [List.getElem?_append_left hil]; exact HBF.out.2.2⟩
            have HFO' := Lib.hid hs
            have hll' : (ls ++ [y]).length ≤ E.length := hbf.len
            rw [List.length_append] at hll'
            have hll2 : ls.length + 1 ≤ E.length := hll'
            generalize hdd : d u = du at ccu hdu HBF' HFO'
            have HLO : Hid (OwnI ((wr.setCell ⟨g, y, none⟩ (.int .i64 ((du : Int) + 1))).alloc (.cells #[.int .i64 (y : Int)] 3)) (g + 1) (.slice Al ls.length cl) (num ls)) := Lib.hid (Own1.below (Own1.keep HL.out fun b e => blk_other (by have := (Own1.lt HL.out e).1; omega)) (al _ _))
            have HBA := Lib.hid (blw (HB.out.setCell (p := ⟨g, y, none⟩) (by show w.heap.size ≤ g; omega) (.int .i64 ((du : Int) + 1))) (al _ (.cells #[.int .i64 (y : Int)] 3)))
            have hsz := HB.out.size
            have hgs := (Own1.lt HFO.out (b := g) rfl).2
            clear hin hyB hcz0 hs hsety hbf hll' hum hdd HBF HFO hy
            go_wp2_with (at_builtin; refine wpList_appg rfl _ _ 30 3 (.int .i64 0) 8 Tryd.underlying30 info_int rfl (by decide) rfl (g + 1) (.slice Al ls.length cl) (ints (num ls)) rfl HLO.out (some ⟨wr.heap.size, 0, none⟩) 1 1 [.int .i64 (y : Int)] rfl rfl (Sl.one (by simp [World.setCell])) (by simp [Value.oneCell']) (by rw [ints_len, num_len]; simp; omega) (by simp [World.setCell]; omega) ?_; intro l9 A9 c9 w9 el ho9 _ _ hbl9; have HO9 := Lib.hid ho9; have HBL := Lib.hid hbl9; have EL := Lib.hid el; clear ho9 hbl9 el)
            go_roundw
            case rel =>
              have el : l9 = ints (num (ls ++ [y])) := by rw [EL.out, num_app, ints_app]; rfl
              have hl9 : l9.length = (ls ++ [y]).length := by rw [el, ints_len, num_len]
              refine ⟨ls ++ [y], upd d y (du + 1), j + 1, A9, c9, by omega, by simp; omega, by simp; omega, by go_num, by rw [hl9], HBF', Lib.hid ?_, Lib.hid ?_, Lib.hid (HBA.out.trans (HBL.out.mono (by omega)))⟩
              · have := HO9.out
                rw [el] at this
                rwa [ints_len, num_len] at this
              · exact (Own1.below HFO'.out (al _ _)).keep fun b e => HBL.out.block b (by injection e with e; have e' : g = b := e; omega)
            case measure => simp [intOf]; omega
        · obtain rfl : j = B.length := by omega
          go_wp2
          go_roundw
          case rel =>
            refine ⟨ls, d, i + 1, Al, cl, by omega, hll, by go_num, rfl, Lib.hid ⟨?_, HBF.out.2.1⟩, HL, HFO, HB⟩
            have := HBF.out.1
            rw [← HBE.out] at this
            exact this.next HE.out HBF.out.2.2
          case measure => simp [intOf]; omega
    · obtain rfl : i = ls.length := by omega
      go_wp2
      go_ret
      exact ⟨farL E.length ls d, g, far_len _ _ _, rfl, Nat.le_of_lt hgw, HFO.out, fun u hu => HBF.out.1.dst HBF.out.2 u hu, HB.out⟩

end Go.Proofs.YtaokbjacfdipmaaDoor
