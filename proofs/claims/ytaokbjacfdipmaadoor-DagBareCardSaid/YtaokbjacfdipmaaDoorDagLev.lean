/- Levels. -/
import Derived.Test.YtaokbjacfdipmaaDoorDagRef3
import Derived.Test.YtaokbjacfdipmaaDoorDagLevP
namespace Go.Proofs.YtaokbjacfdipmaaDoor
open Go.RowKit
set_option linter.unusedVariables false

theorem below_drew1 (w : World) : Below w.heap.size w w.drew := ⟨rfl, rfl, rfl, Nat.le_refl _, fun _ _ => rfl⟩
def lenOf : Value → Nat
  | .slice _ n _ => n
  | _ => 0
theorem num_set (L : List Nat) (v x : Nat) : (ints (num L)).set v (.int .i64 (x : Int)) = ints (num (L.set v x)) := by
  simp [ints, num, List.map_set]

set_option maxRecDepth 100000 in
set_option maxHeartbeats 4000000 in
theorem levels_any (w : World) (E : List (List Int)) (p : Value) (h : Gr w E p) (hn : E.length ≤ 30) :
    Calls Tryd.prog 27 #[p] w (fun e w' => ∃ A c, e = .returned (.slice A (levRows E).length c) ∧ IRows w' A c (levRows E) ∧ Below w.heap.size w w') := by
  obtain ⟨g, A1, c1, A2, c2, A3, c3, ep, hg, h1, h2, h3⟩ := h.ex
  have HGR := Lib.hid h
  subst ep
  have HG := Lib.hid hg
  have H1 := Lib.hid h1
  have H3 := Lib.hid h3
  have HF := Lib.hid h.full
  clear h hg h1 h2 h3
  have hmk := fun W : World => run_mk W 30 3 _ 8 Tryd.underlying30 info_int rfl (by decide) E.length (by omega) _ _ rfl rfl
  have cells : ∀ wr : World, Below w.heap.size w wr → wr.cell? ⟨g, 0, none⟩ = some (.slice A1 E.length c1) ∧ wr.cell? ⟨g, 2, none⟩ = some (.slice A3 E.length c3) := by
    intro wr hb
    have hgb := (hb.block g (blk_lt HG.out)).trans HG.out
    exact ⟨(blk_cell hgb 0).trans rfl, (blk_cell hgb 2).trans rfl⟩
  have CELLS := Lib.hid cells
  clear cells
  go_enter Tryd.func27, Tryd.ntmps27
  go_wp2_with fail
  refine (len_any HGR.out).mono ?_
  rintro e w' ⟨rfl, rfl⟩
  have hb1 : Below w.heap.size w (w.alloc (.cells (Array.replicate E.length (.int .i64 0)) 3)) := (Below.refl _ _).alloc (Nat.le_refl _) _
  obtain ⟨k0, k2⟩ := CELLS.out _ hb1
  go_wp2_with fail
  have ho1 : OwnI (w.alloc (.cells (Array.replicate E.length (.int .i64 0)) 3)) w.heap.size (.slice (some ⟨w.heap.size, 0, none⟩) E.length E.length) (num (levK E 0)) := by
    rw [levK_zero]
    show Own1 _ _ _ _ (ints (num (List.replicate E.length 0)))
    rw [show ints (num (List.replicate E.length 0)) = List.replicate E.length (.int .i64 0) from by simp [ints, num]]
    exact Own1.make w w.heap.size 3 (Nat.le_refl _) E.length (by omega) (.int .i64 0) rfl
  have HB1 := Lib.hid hb1
  have HO1 := Lib.hid ho1
  clear hb1 ho1 k0 k2 hmk
  generalize w.alloc (.cells (Array.replicate E.length (.int .i64 0)) 3) = W0 at HB1 HO1 ⊢
  generalize eb : w.heap.size = bl at HO1 ⊢
  have HBL := Lib.hid eb
  clear eb
  go_loopw [21] (fun i wr => ∃ k : Nat, k ≤ E.length ∧ i = .int .i64 k ∧ Hid (OwnI wr bl (.slice (some ⟨bl, 0, none⟩) E.length E.length) (num (levK E k))) ∧ Hid (Below w.heap.size w wr)) (fun i _ => E.length - (intOf i).toNat)
  case atStart => exact ⟨0, Nat.zero_le _, rfl, HO1, HB1⟩
  case round =>
    clear HO1 HB1
    obtain ⟨k, hk, rfl, HO, HB⟩ := hrel
    obtain ⟨k0, k2⟩ := CELLS.out _ HB.out
    by_cases hkl : k < E.length
    · obtain ⟨b3, off3, y, rfl, hy, hcy0⟩ := H3.out.at_ (k := k) (by rw [num_len, HF.out]; exact hkl)
      have hcy := (HB.out.cell (p := ⟨b3, off3 + k, none⟩) (World.block_lt_of_cell? w _ hcy0)).trans hcy0
      obtain ⟨x, hx⟩ : ∃ x, (order E)[k]? = some x := ⟨_, List.getElem?_eq_getElem (by rw [HF.out]; exact hkl)⟩
      rw [num_get, hx] at hy
      injection hy with hy
      subst hy
      have hxl := (order_ord E).lt x (List.mem_of_getElem? hx)
      obtain ⟨b2, off2, Ax, cx, rfl, hcr0, hir⟩ := H1.out.cells x _ (fro_get hxl)
      have hcr := (HB.out.cell (p := ⟨b2, off2 + x, none⟩) (World.block_lt_of_cell? w _ hcr0)).trans hcr0
      obtain ⟨R, hR⟩ : ∃ R, befL E x = R := ⟨_, rfl⟩
      have hbeh := (order_ord E).behind k x hx
      have hRl : R.length ≤ 30 := by rw [← hR]; exact Nat.le_trans (nodup_len (bef_nodup E x) fun u hu => (bef_mem.1 hu).1) hn
      rw [hR] at hcr hir hbeh
      rw [num_len] at hcr
      have HX := Lib.hid hx; have HIR := Lib.hid hir; have HR := Lib.hid hR
      have HBH := Lib.hid hbeh
      clear hx hir hR hcy0 hcr0 hbeh
      go_wp2_with fail
      go_loopw [33] (fun i wr => ∃ j : Nat, j ≤ R.length ∧ i = .int .i64 j ∧ Hid (OwnI wr bl (.slice (some ⟨bl, 0, none⟩) E.length E.length) (num (stepJ E (levK E k) x j))) ∧ Hid (Below w.heap.size w wr)) (fun i _ => R.length - (intOf i).toNat)
      case atStart => exact ⟨0, Nat.zero_le _, rfl, by rw [stepJ_zero (by rw [levK_len]; exact hxl)]; exact HO, HB⟩
      case round =>
        clear HO HB k0 k2 hcy hcr
        obtain ⟨j, hj, rfl, HO, HB⟩ := hrel
        by_cases hjl : j < R.length
        · obtain ⟨b4, off4, y, rfl, hy, hcy0⟩ := HIR.out.at_ (k := j) (by rw [num_len]; exact hjl)
          have hcy := (HB.out.cell (p := ⟨b4, off4 + j, none⟩) (World.block_lt_of_cell? w _ hcy0)).trans hcy0
          obtain ⟨u, hu⟩ : ∃ u, R[j]? = some u := ⟨_, List.getElem?_eq_getElem hjl⟩
          rw [num_get, hu] at hy
          injection hy with hy
          subst hy
          have hum : u ∈ R := List.mem_of_getElem? hu
          have hul : u < E.length := (bef_mem.1 (by rw [HR.out]; exact hum : u ∈ befL E x)).1
          have hux : u ≠ x := by
            intro e
            obtain ⟨i, hi⟩ := List.getElem?_of_mem (HBH.out u hum)
            have hik : i < k := by have := (List.getElem?_eq_some_iff.1 hi).1; rw [List.length_take] at this; omega
            rw [List.getElem?_take, if_pos hik, e] at hi
            have := nodup_inj (order_ord E).nodup hi HX.out
            omega
          obtain ⟨a, ha⟩ : ∃ a, at0 (stepJ E (levK E k) x j) x = a := ⟨_, rfl⟩
          obtain ⟨c, hc⟩ : ∃ c, at0 (levK E k) u = c := ⟨_, rfl⟩
          have hab : a ≤ 31 := by rw [← ha]; exact Nat.le_trans stepJ_le (by omega)
          have hcb : c ≤ 30 := by rw [← hc]; exact Nat.le_trans (levK_le E k u) (by omega)
          have hsl : (stepJ E (levK E k) x j).length = E.length := by rw [stepJ_len, levK_len]
          have hgx : (num (stepJ E (levK E k) x j))[x]? = some (a : Int) := by rw [num_get, at0_get (by rw [hsl]; exact hxl), ha]; rfl
          have hgu : (num (stepJ E (levK E k) x j))[u]? = some (c : Int) := by
            rw [num_get, at0_get (by rw [hsl]; exact hul)]
            unfold stepJ
            rw [at0_set_ne hux, hc]; rfl
          obtain ⟨gx, egx, _, _, ccx, fcx, _, hsetx⟩ := Own1.at_ HO.out (ints_get hgx)
          injection egx with egx
          injection egx with egx
          subst egx
          obtain ⟨gu, egu, _, _, ccu, _⟩ := Own1.at_ HO.out (ints_get hgu)
          injection egu with egu
          injection egu with egu
          subst egu
          have HSET := Lib.hid hsetx
          have HU := Lib.hid hu
          have HA := Lib.hid ha; have HC := Lib.hid hc
          clear hsetx hu hum hgx hgu ha hc hcy0
          go_wp2
          go_region
          have hmax : (if (a : Int) < (c : Int) + 1 then (c : Int) + 1 else (a : Int)) = ((max a (c + 1) : Nat) : Int) := by split <;> omega
          rw [hmax]
          have HO' : Hid (OwnI ((wr.setCell ⟨bl, x, none⟩ (.int .i64 ((max a (c + 1) : Nat) : Int))).drew) bl (.slice (some ⟨bl, 0, none⟩) E.length E.length) (num (stepJ E (levK E k) x (j + 1)))) := Lib.hid (by
            rw [← stepJ_succ (by rw [levK_len]; exact hxl) (by rw [HR.out]; exact HU.out), HA.out, HC.out]
            have := HSET.out (.int .i64 ((max a (c + 1) : Nat) : Int))
            rw [num_set] at this
            exact this.keep fun _ _ => rfl)
          have HB' : Hid (Below w.heap.size w ((wr.setCell ⟨bl, x, none⟩ (.int .i64 ((max a (c + 1) : Nat) : Int))).drew)) := Lib.hid (blw (HB.out.setCell (p := ⟨bl, x, none⟩) (by rw [HBL.out]; exact Nat.le_refl _) _) (below_drew1 _))
          clear hmax
          generalize (wr.setCell ⟨bl, x, none⟩ (.int .i64 ((max a (c + 1) : Nat) : Int))).drew = wz at HO' HB' ⊢
          go_wp2
          go_roundw
          case rel => exact ⟨j + 1, by omega, by go_num, HO', HB'⟩
          case measure => simp [intOf]; omega
        · obtain rfl : j = R.length := by omega
          go_wp2
          go_roundw
          case rel =>
            refine ⟨k + 1, by omega, by go_num, Lib.hid ?_, HB⟩
            rw [levK_succ HX.out]
            unfold levStep
            rw [HR.out]
            exact HO.out
          case measure => simp [intOf]; omega
    · obtain rfl : k = E.length := by omega
      obtain ⟨L, hL⟩ : ∃ L, levK E E.length = L := ⟨_, rfl⟩
      have hLl : L.length = E.length := by rw [← hL]; exact levK_len E _
      have hLb : ∀ u, at0 L u ≤ 30 := fun u => by rw [← hL]; exact Nat.le_trans (levK_le E _ u) hn
      rw [hL] at HO
      have HL := Lib.hid hL; have HLL := Lib.hid hLl; have HLB := Lib.hid hLb
      clear hL hLl hLb k0 k2 hk
      obtain ⟨WS, hWS⟩ : ∃ WS, wr = WS := ⟨_, rfl⟩
      obtain ⟨N, hN⟩ : ∃ N, WS.heap.size = N := ⟨_, rfl⟩
      have HWS := Lib.hid hWS
      have HN := Lib.hid hN
      rw [hWS] at HO HB
      have HB0 : Hid (Below N WS wr) := Lib.hid (by rw [hWS]; exact Below.refl _ _)
      have hNw : N ≤ wr.heap.size := by rw [hWS, hN]; exact Nat.le_refl _
      clear hWS hN
      go_wp2_with fail
      go_loopw [8, 54] (fun lv i wr => ∃ (v m : Nat) (vs : List Value) (Ao : Option Addr) (co : Nat), v ≤ E.length ∧ i = .int .i64 v ∧ lv = .slice Ao m co ∧ m ≤ 31 ∧ Hid (m = mx L v) ∧ Hid (Tbl wr N 30 3 (.slice Ao m co) vs (rowsV m (rowL L v))) ∧ Hid (Below N WS wr)) (fun _ i _ => E.length - (intOf i).toNat)
      case atStart => exact ⟨0, 0, [], none, 0, Nat.zero_le _, rfl, rfl, by omega, Lib.hid (by simp [mx]), Lib.hid (by have := Tbl.nil wr N 30 3; simpa [rowsV] using this), HB0⟩
      case round =>
        clear HB0 hNw HWS
        obtain ⟨v, m, vs, Ao, co, hv, rfl, rfl, hm31, HM, HT, HBW⟩ := hrel
        by_cases hvl : v < E.length
        · obtain ⟨a, ha⟩ : ∃ a, at0 L v = a := ⟨_, rfl⟩
          have hab : a ≤ 30 := by rw [← ha]; exact HLB.out v
          have hgv : (num L)[v]? = some (a : Int) := by rw [num_get, at0_get (by rw [HLL.out]; exact hvl), ha]; rfl
          obtain ⟨gx, egx, _, hltx, ccx0, _⟩ := Own1.at_ HO.out (ints_get hgv)
          injection egx with egx
          injection egx with egx
          subst egx
          have ccx := (HBW.out.cell (p := ⟨bl, v, none⟩) (by rw [← HN.out]; exact hltx)).trans ccx0
          have HA := Lib.hid ha
          have hmm : mx L (v + 1) = max (mx L v) (a + 1) := mx_succ (by rw [at0_get (by rw [HLL.out]; exact hvl), ha])
          have HMM := Lib.hid hmm
          have hsz := HBW.out.size
          rw [HN.out] at hsz
          have HVL : Hid (v ≤ L.length) := Lib.hid (by rw [HLL.out]; exact hv)
          clear ha hgv ccx0 hltx hmm
          go_wp2_with fail
          go_loopw [8] (fun lv wr => ∃ (m' : Nat) (vs : List Value) (Ao : Option Addr) (co : Nat), lv = .slice Ao m' co ∧ m' ≤ 31 ∧ m ≤ m' ∧ m' ≤ max m (a + 1) ∧ Hid (Tbl wr N 30 3 (.slice Ao m' co) vs (rowsV m' (rowL L v))) ∧ Hid (Below N WS wr)) (fun lv _ => a + 1 - lenOf lv)
          case atStart => exact ⟨m, vs, Ao, co, rfl, hm31, Nat.le_refl _, by omega, HT, HBW⟩
          case round =>
            clear HT HBW ccx hsz
            obtain ⟨m', vs, Ao, co, rfl, hm', hm1, hm2, HT, HBW⟩ := hrel
            have hsz := HBW.out.size
            rw [HN.out] at hsz
            have hvsl : vs.length = m' := by rw [HT.out.len]; simp [rowsV]
            by_cases hle : m' ≤ a
            · have HEMP : Hid (rowL L v m' = []) := Lib.hid (rowL_empty HVL.out (by rw [← HM.out]; exact hm1))
              have hown := HT.out.out
              have HOW : Hid (Own1 (wr.alloc (.cells #[.slice none 0 0] 30)) N 30 (.slice Ao m' co) vs) := Lib.hid (hown.below ((Below.refl _ _).alloc (Nat.le_refl _) _))
              clear hown
              go_wp2_with (at_builtin; refine wpList_appg rfl _ _ 22 30 (.slice none 0 0) 24 Tryd.underlying22 info_is rfl (by decide) rfl N (.slice Ao m' co) vs rfl HOW.out (some ⟨wr.heap.size, 0, none⟩) 1 1 [.slice none 0 0] rfl rfl (Sl.one rfl) (by simp [Value.oneCell']) (by simp; omega) (by simp; omega) ?_; intro l A9 c9 w9 el ho9 hg9 _ hbl9; have HO9 := Lib.hid ho9; have HG9 := Lib.hid hg9; have HB9 := Lib.hid hbl9; have EL := Lib.hid el; have hll : l.length = m' + 1 := (by rw [el]; simp [hvsl]); rw [hll]; clear ho9 hg9 hbl9 el)
              go_roundw
              case rel =>
                refine ⟨m' + 1, l, A9, c9, rfl, by omega, by omega, by omega, Lib.hid ?_, Lib.hid ?_⟩
                · have := HT.out.push (by decide) (u := .slice none 0 0) (us := []) (w' := w9) (v' := .slice A9 (m' + 1) c9) (fun b hb hne => (HG9.out.block b (Nat.lt_of_lt_of_le hb (by simp)) (fun e => hne e.symm)).trans (Below.heap_alloc wr _ b hb)) (by rw [← EL.out, ← hll]; exact HO9.out) (Own1.nil _ _ _) (fun b e => by cases e)
                  rw [← EL.out] at this
                  have e2 : rowsV m' (rowL L v) ++ [[]] = rowsV (m' + 1) (rowL L v) := by
                    unfold rowsV
                    rw [List.range_succ, List.map_append, List.map_cons, HEMP.out]; rfl
                  rw [e2] at this
                  exact this
                · exact (HBW.out.alloc hsz _).trans (HB9.out)
              case measure => simp [lenOf]; omega
            · have hml : a < m' := by omega
              obtain ⟨g', A5, c5, eg, _, hglt, hvu, hcu, hfu, hou⟩ := HT.out.row (rowsV_get _ hml)
              subst eg
              obtain ⟨R, hR⟩ : ∃ R, rowL L v a = R := ⟨_, rfl⟩
              rw [hR] at hou hcu hvu
              rw [ints_len, num_len] at hcu hvu hou
              have hRl : R.length ≤ 30 := by
                rw [← hR]
                unfold rowL
                have := List.length_filter_le (fun u => at0 L u == a) (List.range v)
                simp only [List.length_range] at this
                omega
              have HVU := Lib.hid hvu
              have HOU : Hid (Own1 (wr.alloc (.cells #[.int .i64 (v : Int)] 3)) N 3 (.slice A5 R.length c5) (ints (num R))) := Lib.hid (Own1.below hou ((Below.refl _ _).alloc (Nat.le_refl _) _))
              have HR := Lib.hid hR
              clear hvu hou hR
              go_wp2_with (at_builtin; refine wpList_appg rfl _ _ 30 3 (.int .i64 0) 8 Tryd.underlying30 info_int rfl (by decide) rfl N (.slice A5 R.length c5) (ints (num R)) rfl HOU.out (some ⟨wr.heap.size, 0, none⟩) 1 1 [.int .i64 (v : Int)] rfl rfl (Sl.one rfl) (by simp [Value.oneCell']) (by rw [ints_len, num_len]; simp; omega) (by simp; omega) ?_; intro l A9 c9 w9 el ho9 hg9 hb9 _; obtain ⟨htb, hcg, hfg, hbw⟩ := Tbl.appended HT.out (by decide) HVU.out hg9 ho9 hb9 hsz; have HTB := Lib.hid htb; have HBW2 := Lib.hid hbw; have EL := Lib.hid el; clear htb hbw ho9 hg9 hb9 el)
              go_roundw
              case rel =>
                refine ⟨v + 1, m', vs.set a (.slice A9 l.length c9), some ⟨g', 0, none⟩, co, by omega, by go_num, rfl, hm', Lib.hid (by rw [HMM.out, ← HM.out]; omega), Lib.hid ?_, Lib.hid (HBW.out.trans HBW2.out)⟩
                have e2 : (rowsV m' (rowL L v)).set a l = rowsV m' (rowL L (v + 1)) := by
                  have e3 : rowL L (v + 1) a = R ++ [v] := by rw [rowL_succ, HR.out, HA.out]; simp
                  rw [EL.out, ← ints_get1, ← num_one, ← ints_app, ← num_app, ← e3]
                  exact rowsV_set hml fun i _ hi => by rw [rowL_succ, HA.out]; have : (a == i) = false := by rw [beq_eq_false_iff_ne]; exact fun e => hi e.symm
                                                       simp [this]
                rw [← e2]
                exact HTB.out
              case measure => simp [intOf]; omega
        · obtain rfl : v = E.length := by omega
          have HFIN : Hid (∃ A c, (Value.slice Ao m co) = .slice A (levRows E).length c ∧ IRows wr A c (levRows E)) := Lib.hid (by
            have := HT.out
            rw [show rowsV m (rowL L E.length) = (levRows E).map ints from by
              unfold rowsV levRows levs
              rw [List.map_map, HL.out, ← HM.out]; rfl] at this
            have h9 := this.irows
            exact ⟨Ao, co, by rw [← h9.1], h9.2⟩)
          go_wp2
          go_ret
          obtain ⟨A, c, e1, e2⟩ := HFIN.out
          exact ⟨A, c, by rw [← e1]; rfl, e2, blw HB.out (by rw [HN.out]; exact HBW.out)⟩

end Go.Proofs.YtaokbjacfdipmaaDoor
