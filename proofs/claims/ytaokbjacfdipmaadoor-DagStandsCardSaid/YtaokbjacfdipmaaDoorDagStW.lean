/- The walk of DagStands. -/
import Derived.Test.YtaokbjacfdipmaaDoorDagStP
import Derived.Test.YtaokbjacfdipmaaDoorDagLev
import Derived.Test.YtaokbjacfdipmaaDoorDagKnown
namespace Go.Proofs.YtaokbjacfdipmaaDoor
open Go.RowKit
set_option linter.unusedVariables false

theorem ints_set (xs : List Int) (k : Nat) (x : Int) : (ints xs).set k (.int .i64 x) = ints (xs.set k x) := by simp [ints, List.map_set]
theorem neg_not (x : Nat) : decide ((x : Int) < 0) = false := by simp

set_option maxRecDepth 100000 in
set_option maxHeartbeats 6400000 in
theorem walk_DagStands (w : World) (hT : Tab w) (A : Option Addr) (c : Nat) (E : List (List Int)) (h : IRows w A c E) (hz : ∀ l ∈ E, l.length ≤ 140737488355328) :
    Calls Tryd.prog 7 #[.slice A E.length c] w fun e w' => e = .returned (.bool true) ∧ Below w.heap.size w w' := by
  have HT := Lib.hid hT; have H := Lib.hid h; have HZ := Lib.hid hz
  clear hT h hz
  by_cases hbig : 30 < E.length
  · go_enter Tryd.func7, Tryd.ntmps7
    go_wp2_with fail
    refine (long_many E _ _ _ H.out hbig).mono ?_
    rintro e w1 ⟨rfl, rfl⟩
    go_wp2_with fail
    refine (known_any _ HT.out).mono ?_
    rintro e w2 ⟨rfl, hb⟩
    go_wp2
    go_ret
    exact ⟨rfl, hb⟩
  have hn : E.length ≤ 30 := by omega
  clear hbig
  by_cases hs : 100 < sumL E
  · have HS : Hid (decide (100 < sumL E) = true) := Lib.hid (decide_eq_true hs)
    clear hs
    go_enter Tryd.func7, Tryd.ntmps7
    go_wp2_with fail
    refine (long_few E _ _ _ H.out hn HZ.out true HS.out).mono ?_
    rintro e w1 ⟨rfl, rfl⟩
    go_wp2_with fail
    refine (known_any _ HT.out).mono ?_
    rintro e w2 ⟨rfl, hb⟩
    go_wp2
    go_ret
    exact ⟨rfl, hb⟩
  have HS : Hid (decide (100 < sumL E) = false) := Lib.hid (decide_eq_false hs)
  have HLE : Hid (∀ l ∈ E, l.length ≤ 1000) := Lib.hid fun l hl => by have := sumL_mem hl; omega
  clear hs
  by_cases hE : newE E = 0
  · have HE := Lib.hid hE
    have HV : Hid (Valid E) := Lib.hid (okAll_iff.1 (by
      cases hok : okAll E with
      | true => rfl
      | false => rw [newE_arg hok] at hE; cases hE))
    clear hE
    go_enter Tryd.func7, Tryd.ntmps7
    go_wp2_with fail
    refine (long_few E _ _ _ H.out hn HZ.out false HS.out).mono ?_
    rintro e w1 ⟨rfl, rfl⟩
    go_wp2_with fail
    refine (new_ok E _ rfl _ _ _ H.out hn HLE.out HT.out HE.out).mono ?_
    rintro e w1 ⟨g, rfl, hg, hb1⟩
    have HG := Lib.hid hg; have HB1 := Lib.hid hb1
    clear hg hb1
    go_wp2_with fail
    refine (order_any _ E _ HG.out hn).mono ?_
    rintro e w2 ⟨Ao, co, rfl, hio, hb2⟩
    have hol : (num (order E)).length = E.length := by rw [num_len]; exact HG.out.full
    rw [hol]
    have HF := Lib.hid HG.out.full
    have HIO := Lib.hid hio
    have HB2 := Lib.hid (blw HB1.out hb2)
    have HG2 := Lib.hid (HG.out.below hb2)
    clear hio hb2 hol HG HB1
    have hmk := fun W : World => run_mk W 30 3 _ 8 Tryd.underlying30 info_int rfl (by decide) E.length (by omega) _ _ rfl rfl
    go_wp2_with fail
    have HB3 : Hid (Below w2.heap.size w2 (w2.alloc (.cells (Array.replicate E.length (.int .i64 0)) 3))) := Lib.hid (al _ _)
    have HO3 : Hid (OwnI (w2.alloc (.cells (Array.replicate E.length (.int .i64 0)) 3)) w2.heap.size (.slice (some ⟨w2.heap.size, 0, none⟩) E.length E.length) (atL (order E) E.length 0)) := Lib.hid (by
      rw [atL_zero]
      show Own1 _ _ _ _ (ints (List.replicate E.length 0))
      rw [show ints (List.replicate E.length (0 : Int)) = List.replicate E.length (.int .i64 0) from by simp [ints]]
      exact Own1.make w2 w2.heap.size 3 (Nat.le_refl _) E.length (by omega) (.int .i64 0) rfl)
    clear hmk
    generalize w2.alloc (.cells (Array.replicate E.length (.int .i64 0)) 3) = W0 at HB3 HO3 ⊢
    generalize eb : w2.heap.size = bl at HO3 ⊢
    have HBL := Lib.hid eb
    clear eb
    go_loopw [7] (fun i wr => ∃ k : Nat, k ≤ E.length ∧ i = .int .i64 k ∧ Hid (OwnI wr bl (.slice (some ⟨bl, 0, none⟩) E.length E.length) (atL (order E) E.length k)) ∧ Hid (Below w2.heap.size w2 wr)) (fun i _ => E.length - (intOf i).toNat)
    case atStart => exact ⟨0, Nat.zero_le _, rfl, HO3, HB3⟩
    case round =>
      clear HO3 HB3
      obtain ⟨k, hk, rfl, HO, HB⟩ := hrel
      by_cases hkl : k < E.length
      · obtain ⟨b3, off3, y, rfl, hy, hcy0⟩ := HIO.out.at_ (k := k) (by rw [num_len, HF.out]; exact hkl)
        have hcy := (HB.out.cell (p := ⟨b3, off3 + k, none⟩) (World.block_lt_of_cell? w2 _ hcy0)).trans hcy0
        obtain ⟨x, hx⟩ : ∃ x, (order E)[k]? = some x := ⟨_, List.getElem?_eq_getElem (by rw [HF.out]; exact hkl)⟩
        rw [num_get, hx] at hy
        injection hy with hy
        subst hy
        have hxl := (order_ord E).lt x (List.mem_of_getElem? hx)
        obtain ⟨gx, egx, _, _, ccx, fcx, _, hsetx⟩ := Own1.at_ HO.out (ints_get (atL_new (order_ord E).nodup hx hxl))
        injection egx with egx
        injection egx with egx
        subst egx
        have hs := hsetx (.int .i64 ((k : Int) + 1))
        rw [ints_set, atL_step (order_ord E).nodup hx hxl] at hs
        have HSET := Lib.hid hs
        have HB' := Lib.hid (HB.out.setCell (p := ⟨bl, x, none⟩) (by rw [HBL.out]; exact Nat.le_refl _) (.int .i64 ((k : Int) + 1)))
        have hd1 := neg_not x
        clear hs hsetx hx hcy0
        go_wp2_with fail
        go_roundw
        case rel => exact ⟨k + 1, by omega, by go_num, HSET, HB'⟩
        case measure => simp [intOf]; omega
      · obtain rfl : k = E.length := by omega
        obtain ⟨o, ho⟩ : ∃ o, order E = o := ⟨_, rfl⟩
        have HAT : Hid (∀ u, u < E.length → (ints (atL o E.length E.length))[u]? = some (.int .i64 ((pos o u : Int) + 1))) := Lib.hid fun u hu => by
          rw [← ho]; exact ints_get (atL_full HF.out hu)
        have HFAR : Hid (∀ v u : Nat, FarP (fro E) [(v : Int)] u → pos o u < pos o v) := Lib.hid fun v u h => by
          rw [← ho]; exact pos_far HF.out HV.out h
        rw [ho] at HO
        clear ho hk
        have HGS := Lib.hid (HG2.out.below HB.out)
        have HBS := Lib.hid (blw HB2.out HB.out)
        have HTS := Lib.hid (HT.out.below HBS.out HT.out.lt)
        have HOS := HO
        have HB0 : Hid (Below wr.heap.size wr wr) := Lib.hid (Below.refl _ _)
        obtain ⟨WS, hWS⟩ : ∃ WS, wr = WS := ⟨_, rfl⟩
        rw [hWS] at HGS HBS HTS HOS
        have HB0' : Hid (Below WS.heap.size WS wr) := Lib.hid (by rw [hWS]; exact Below.refl _ _)
        clear HO HB HB0 hWS HIO HG2 HB2
        go_wp2_with fail
        go_loopw [8] (fun i wr => ∃ v : Nat, v ≤ E.length ∧ i = .int .i64 v ∧ Hid (Below WS.heap.size WS wr)) (fun i _ => E.length - (intOf i).toNat)
        case atStart => exact ⟨0, Nat.zero_le _, rfl, HB0'⟩
        case round =>
          clear HB0'
          obtain ⟨v, hv, rfl, HB⟩ := hrel
          by_cases hvl : v < E.length
          · go_wp2_with fail
            have HBV := Lib.hid (blw HB.out (al wr (.cells #[.int .i64 (v : Int)] 3)))
            refine (above_any _ E _ (HGS.out.below HBV.out) hn [(v : Int)] 1 rfl _ _ (Ints.lit wr [(v : Int)] rfl rfl (by simp)) (HTS.out.below HBV.out HTS.out.lt)).mono ?_
            rintro e w5 ⟨q, Aa, ca, hq, rfl, hi5, hb5⟩
            obtain ⟨L, hL⟩ : ∃ L, num ((List.range E.length).filter q) = L := ⟨_, rfl⟩
            have HQ : Hid (∀ i, i < L.length → ∃ u : Nat, L[i]? = some (u : Int) ∧ u < E.length ∧ pos o u < pos o v) := Lib.hid fun i hi => by
              rw [← hL] at hi ⊢
              rw [num_len] at hi
              have hm := List.getElem_mem hi
              have hm' := List.mem_filter.1 hm
              have hul : ((List.range E.length).filter q)[i] < E.length := by simpa using hm'.1
              refine ⟨((List.range E.length).filter q)[i], ?_, hul, HFAR.out _ _ ((hq _ hul).1 hm'.2)⟩
              rw [num_get, List.getElem?_eq_getElem hi]; rfl
            have hLl : L.length ≤ 30 := by
              rw [← hL, num_len]
              exact Nat.le_trans (nodup_len (filter_range_nodup _ _) fun u hu => filter_range_lt hu) hn
            rw [hL] at hi5 ⊢
            have HI5 := Lib.hid hi5
            have HB5 := Lib.hid (blw HBV.out hb5)
            have HB50 : Hid (Below w5.heap.size w5 w5) := Lib.hid (Below.refl _ _)
            clear hi5 hb5 hq hL HB HBV
            go_wp2_with fail
            go_loopw [10] (fun i wr => ∃ k : Nat, k ≤ L.length ∧ i = .int .i64 k ∧ Hid (Below w5.heap.size w5 wr)) (fun i _ => L.length - (intOf i).toNat)
            case atStart => exact ⟨0, Nat.zero_le _, rfl, HB50⟩
            case round =>
              clear HB50
              obtain ⟨k, hk, rfl, HB⟩ := hrel
              by_cases hkl : k < L.length
              · obtain ⟨b3, off3, y, rfl, hy, hcy0⟩ := HI5.out.at_ hkl
                have hcy := (HB.out.cell (p := ⟨b3, off3 + k, none⟩) (World.block_lt_of_cell? w5 _ hcy0)).trans hcy0
                obtain ⟨u, hu, hul, hpu⟩ := HQ.out k hkl
                rw [hu] at hy
                injection hy with hy
                subst hy
                have ho := Own1.below HOS.out (blw HB5.out HB.out)
                obtain ⟨gu, egu, _, _, ccu, _⟩ := Own1.at_ ho (HAT.out u hul)
                injection egu with egu
                injection egu with egu
                subst egu
                obtain ⟨gv, egv, _, _, ccv, _⟩ := Own1.at_ ho (HAT.out v hvl)
                injection egv with egv
                injection egv with egv
                subst egv
                generalize pos o u = pu at hpu ccu
                generalize pos o v = pv at hpu ccv
                have hz : (((pu : Int) + 1) == 0) = false := by rw [beq_eq_false_iff_ne]; omega
                clear ho hu hcy0
                go_wp2
                go_quiet (fail)
                go_wp2
                rename_i nq hnn
                go_roundw
                case rel => exact ⟨k + 1, by omega, by go_num, Lib.hid (blw HB.out (below_drew wr nq))⟩
                case measure => simp [intOf]; omega
              · obtain rfl : k = L.length := by omega
                go_wp2
                go_roundw
                case rel => exact ⟨v + 1, by omega, by go_num, Lib.hid (blw HB5.out HB.out)⟩
                case measure => simp [intOf]; omega
          · obtain rfl : v = E.length := by omega
            clear HAT HFAR HOS hv
            go_wp2_with fail
            refine (levels_any _ E _ (HGS.out.below HB.out) hn).mono ?_
            rintro e w6 ⟨Al, cl, rfl, hir, hb6⟩
            rw [levRows_len]
            obtain ⟨M, hM⟩ : ∃ M, mx (levs E) E.length = M := ⟨_, rfl⟩
            obtain ⟨LV, hLV⟩ : ∃ LV, levs E = LV := ⟨_, rfl⟩
            have hLVl : E.length ≤ LV.length := by rw [← hLV]; unfold levs; rw [levK_len]; exact Nat.le_refl _
            have HROW : Hid (∀ k, k < M → (levRows E)[k]? = some (num (rowL LV E.length k))) := Lib.hid fun k hk => by
              rw [← hLV]; exact levRows_get (by rw [hM]; exact hk)
            have HSEE : Hid (∀ v k u : Nat, v ∈ rowL LV E.length k → u ∈ befL E v → seenB LV E.length k 0 u = true) := Lib.hid fun v k u h1 h2 => by
              rw [← hLV] at h1 ⊢; exact seen_bef HF.out h1 h2
            rw [hM]
            rw [hLV] at hM
            have HCF : Hid (cntL LV E.length M = E.length) := Lib.hid (by rw [← hM]; exact cntL_full hLVl)
            have hMb : M ≤ 31 := by
              rw [← hM, ← hLV]
              exact Nat.le_trans (mx_le (levK_le E E.length) _) (by omega)
            have HIR := Lib.hid hir
            have HGT := Lib.hid (HGS.out.below (blw HB.out hb6))
            have HBT := Lib.hid (blw HBS.out (blw HB.out hb6))
            clear hir hb6 hM hLV hLVl HGS HBS HTS HB
            have hmk := fun W : World => run_mk W 45 4 _ 1 Tryd.underlying45 info_bool rfl (by decide) E.length (by omega) _ _ rfl rfl
            go_wp2_with fail
            have HB7 : Hid (Below w6.heap.size w6 (w6.alloc (.cells (Array.replicate E.length (.bool false)) 4))) := Lib.hid (al _ _)
            have HO7 : Hid (Own1 (w6.alloc (.cells (Array.replicate E.length (.bool false)) 4)) w6.heap.size 4 (.slice (some ⟨w6.heap.size, 0, none⟩) E.length E.length) (rowB E.length (seenB LV E.length 0 0))) := Lib.hid (by
              rw [← seen_zero]
              exact Own1.make w6 w6.heap.size 4 (Nat.le_refl _) E.length (by omega) (.bool false) rfl)
            clear hmk
            generalize w6.alloc (.cells (Array.replicate E.length (.bool false)) 4) = W7 at HB7 HO7 ⊢
            generalize eb : w6.heap.size = bs at HO7 ⊢
            have HBS7 := Lib.hid eb
            clear eb
            go_loopw [13, 14] (fun nn i wr => ∃ k : Nat, k ≤ M ∧ i = .int .i64 k ∧ nn = .int .i64 (cntL LV E.length k) ∧ Hid (Own1 wr bs 4 (.slice (some ⟨bs, 0, none⟩) E.length E.length) (rowB E.length (seenB LV E.length k 0))) ∧ Hid (Below w6.heap.size w6 wr)) (fun _ i _ => M - (intOf i).toNat)
            case atStart => exact ⟨0, Nat.zero_le _, rfl, by rw [cntL_zero]; rfl, HO7, HB7⟩
            case round =>
              clear HO7 HB7
              obtain ⟨k, hk, rfl, rfl, HO, HB⟩ := hrel
              obtain ⟨cn, hcn⟩ : ∃ cn, cntL LV E.length k = cn := ⟨_, rfl⟩
              have hcb : cn ≤ 30 := by rw [← hcn]; exact Nat.le_trans (cntL_le _ _ _) hn
              have HCN := Lib.hid hcn
              rw [hcn]
              clear hcn
              by_cases hkl : k < M
              · obtain ⟨b, off, Ar, cr, rfl, hcr0, hir⟩ := HIR.out.cells k _ (HROW.out k hkl)
                obtain ⟨R, hR⟩ : ∃ R, rowL LV E.length k = R := ⟨_, rfl⟩
                rw [hR] at hcr0 hir
                rw [num_len] at hcr0
                have hRl : R.length ≤ 30 := by rw [← hR]; exact Nat.le_trans (rowL_len _ _ _) hn
                have HR := Lib.hid hR
                have HRI := Lib.hid hir
                have HC6 := Lib.hid hcr0
                clear hR hir hcr0
                have HOK := HO; have HBK := HB
                obtain ⟨WK, hWK⟩ : ∃ WK, wr = WK := ⟨_, rfl⟩
                rw [hWK] at HOK HBK
                have HB0 : Hid (Below WK.heap.size WK wr) := Lib.hid (by rw [hWK]; exact Below.refl _ _)
                have hck := (HB.out.cell (p := ⟨b, off + k, none⟩) (World.block_lt_of_cell? w6 _ HC6.out)).trans HC6.out
                clear hWK HO HB
                go_wp2_with fail
                clear hck
                go_loopw [13, 15] (fun nn i wr => ∃ i' : Nat, i' ≤ R.length ∧ i = .int .i64 i' ∧ nn = .int .i64 ((cn + i' : Nat) : Int) ∧ Hid (Below WK.heap.size WK wr)) (fun _ i _ => R.length - (intOf i).toNat)
                case atStart => exact ⟨0, Nat.zero_le _, rfl, rfl, HB0⟩
                case round =>
                  clear HB0
                  obtain ⟨i, hi, rfl, rfl, HB⟩ := hrel
                  have hck := ((blw HBK.out HB.out).cell (p := ⟨b, off + k, none⟩) (World.block_lt_of_cell? w6 _ HC6.out)).trans HC6.out
                  by_cases hil : i < R.length
                  · obtain ⟨x, hx⟩ : ∃ x, R[i]? = some x := ⟨_, List.getElem?_eq_getElem hil⟩
                    obtain ⟨b3, off3, y, rfl, hy, hcy0⟩ := HRI.out.at_ (k := i) (by rw [num_len]; exact hil)
                    have hcy := ((blw HBK.out HB.out).cell (p := ⟨b3, off3 + i, none⟩) (World.block_lt_of_cell? w6 _ hcy0)).trans hcy0
                    rw [num_get, hx] at hy
                    injection hy with hy
                    subst hy
                    have hxr : x ∈ rowL LV E.length k := by rw [HR.out]; exact List.mem_of_getElem? hx
                    have hxl := (inRow hxr).1
                    obtain ⟨B, hB⟩ : ∃ B, befL E x = B := ⟨_, rfl⟩
                    have HGV : Hid (getL (fro E) (x : Int) = num B) := Lib.hid (by unfold getL; rw [fro_len, if_pos (by omega), Int.toNat_natCast, ← hB]; exact fro_row x hxl)
                    have HBB : Hid (∀ u ∈ B, u < E.length ∧ seenB LV E.length k 0 u = true) := Lib.hid fun u hu => by
                      rw [← hB] at hu
                      exact ⟨(bef_mem.1 hu).1, HSEE.out x k u hxr hu⟩
                    have hBl : B.length ≤ 30 := by rw [← hB]; exact Nat.le_trans (nodup_len (bef_nodup E x) fun u hu => (bef_mem.1 hu).1) hn
                    clear hcy0 hx hxr hB
                    go_wp2_with fail
                    refine (before_any _ E _ (HGT.out.below (blw HBK.out HB.out)) hn (x : Int)).mono ?_
                    rintro e w8 ⟨Ab, cb, rfl, hib, hb8⟩
                    rw [HGV.out] at hib ⊢
                    rw [num_len]
                    have HIB := Lib.hid hib
                    have HB8 := Lib.hid (blw HB.out hb8)
                    have HO8 : Hid (Own1 w8 bs 4 (.slice (some ⟨bs, 0, none⟩) E.length E.length) (rowB E.length (seenB LV E.length k 0))) := Lib.hid (Own1.below HOK.out HB8.out)
                    clear hib hb8 HB hck hcy
                    go_wp2_with fail
                    go_loop [17] (fun j => ∃ j' : Nat, j' ≤ B.length ∧ j = .int .i64 j') (fun j => B.length - (intOf j).toNat)
                    case atStart => exact ⟨0, Nat.zero_le _, rfl⟩
                    case round =>
                      obtain ⟨j, hj, rfl⟩ := hrel
                      by_cases hjl : j < B.length
                      · obtain ⟨b4, off4, y, rfl, hy, hcy⟩ := HIB.out.at_ (k := j) (by rw [num_len]; exact hjl)
                        obtain ⟨u, hu⟩ : ∃ u, B[j]? = some u := ⟨_, List.getElem?_eq_getElem hjl⟩
                        rw [num_get, hu] at hy
                        injection hy with hy
                        subst hy
                        obtain ⟨hul, hsu⟩ := HBB.out u (List.mem_of_getElem? hu)
                        have hget := rowB_get (seenB LV E.length k 0) hul
                        rw [hsu] at hget
                        obtain ⟨gu, egu, _, _, ccu, _⟩ := Own1.at_ HO8.out hget
                        injection egu with egu
                        injection egu with egu
                        subst egu
                        clear hget hsu hu
                        go_wp2
                        go_round
                        case rel => exact ⟨j + 1, by omega, by go_num⟩
                        case measure => simp [intOf]; omega
                      · obtain rfl : j = B.length := by omega
                        go_wp2
                        go_roundw
                        case rel => exact ⟨i + 1, by omega, by go_num, by go_num, HB8⟩
                        case measure => simp [intOf]; omega
                  · obtain rfl : i = R.length := by omega
                    have HO9 : Hid (Own1 wr bs 4 (.slice (some ⟨bs, 0, none⟩) E.length E.length) (rowB E.length (seenB LV E.length k 0))) := Lib.hid (Own1.below HOK.out HB.out)
                    have HB9 := Lib.hid (blw HBK.out HB.out)
                    clear HB HOK HBK
                    go_wp2_with fail
                    clear hck
                    go_loopw [18] (fun j wr => ∃ j' : Nat, j' ≤ R.length ∧ j = .int .i64 j' ∧ Hid (Own1 wr bs 4 (.slice (some ⟨bs, 0, none⟩) E.length E.length) (rowB E.length (seenB LV E.length k j'))) ∧ Hid (Below w6.heap.size w6 wr)) (fun j _ => R.length - (intOf j).toNat)
                    case atStart => exact ⟨0, Nat.zero_le _, rfl, HO9, HB9⟩
                    case round =>
                      clear HO9 HB9
                      obtain ⟨j, hj, rfl, HO, HB⟩ := hrel
                      have hck := (HB.out.cell (p := ⟨b, off + k, none⟩) (World.block_lt_of_cell? w6 _ HC6.out)).trans HC6.out
                      by_cases hjl : j < R.length
                      · obtain ⟨x, hx⟩ : ∃ x, R[j]? = some x := ⟨_, List.getElem?_eq_getElem hjl⟩
                        obtain ⟨b3, off3, y, rfl, hy, hcy0⟩ := HRI.out.at_ (k := j) (by rw [num_len]; exact hjl)
                        have hcy := (HB.out.cell (p := ⟨b3, off3 + j, none⟩) (World.block_lt_of_cell? w6 _ hcy0)).trans hcy0
                        rw [num_get, hx] at hy
                        injection hy with hy
                        subst hy
                        have hxr : (rowL LV E.length k)[j]? = some x := by rw [HR.out]; exact hx
                        have hxl := (inRow (List.mem_of_getElem? hxr)).1
                        obtain ⟨gx, egx, _, _, ccx, fcx, _, hsetx⟩ := Own1.at_ HO.out (rowB_get _ hxl)
                        injection egx with egx
                        injection egx with egx
                        subst egx
                        have hs := hsetx (.bool true)
                        rw [seen_step hxr hxl] at hs
                        have HSET := Lib.hid hs
                        have HB' := Lib.hid (HB.out.setCell (p := ⟨bs, x, none⟩) (by rw [HBS7.out]; exact Nat.le_refl _) (.bool true))
                        clear hs hsetx hx hxr hcy0
                        go_wp2_with fail
                        go_roundw
                        case rel => exact ⟨j + 1, by omega, by go_num, HSET, HB'⟩
                        case measure => simp [intOf]; omega
                      · obtain rfl : j = R.length := by omega
                        go_wp2
                        go_roundw
                        case rel =>
                          refine ⟨k + 1, by omega, by go_num, ?_, Lib.hid ?_, HB⟩
                          · rw [cntL_succ, HCN.out, HR.out]
                          · have h := HO.out
                            rw [← HR.out, seen_next] at h
                            exact h
                        case measure => simp [intOf]; omega
              · have hkM : k = M := by omega
                subst hkM
                have hcE : cn = E.length := by rw [← HCN.out]; exact HCF.out
                subst hcE
                have hnn : ((E.length : Int) == (E.length : Int)) = true := by simp
                go_wp2_with fail
                refine (known_any _ (HT.out.below (blw HBT.out HB.out) HT.out.lt)).mono ?_
                rintro e w9 ⟨rfl, hb9⟩
                go_wp2
                go_ret
                exact ⟨rfl, blw (blw HBT.out HB.out) hb9⟩
  · obtain ⟨q, hq⟩ : ∃ q, newE E = q := ⟨_, rfl⟩
    have hq0 : (q == 0) = false := by rw [beq_eq_false_iff_ne, ← hq]; exact hE
    have HQ := Lib.hid hq
    have HQ0 : Hid (q ≠ 0) := Lib.hid (by rw [← hq]; exact hE)
    clear hE hq
    go_enter Tryd.func7, Tryd.ntmps7
    go_wp2_with fail
    refine (long_few E _ _ _ H.out hn HZ.out false HS.out).mono ?_
    rintro e w1 ⟨rfl, rfl⟩
    go_wp2_with fail
    refine (new_bad E _ rfl _ _ _ H.out hn HLE.out HT.out q HQ.out HQ0.out).mono ?_
    rintro e w1 ⟨rfl, hb1⟩
    have HB1 := Lib.hid hb1
    clear hb1
    go_wp2_with fail
    refine (known_any _ (HT.out.below HB1.out HT.out.lt)).mono ?_
    rintro e w8 ⟨rfl, hb8⟩
    go_wp2
    go_ret
    exact ⟨rfl, blw HB1.out hb8⟩

end Go.Proofs.YtaokbjacfdipmaaDoor
